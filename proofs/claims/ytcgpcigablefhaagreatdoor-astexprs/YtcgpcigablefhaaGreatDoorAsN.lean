/-
  Ast: ShowExpr of the document.
-/
import Derived.Test.YtcgpcigablefhaaGreatDoorAsL
import Derived.Test.YtcgpcigablefhaaGreatDoorAsK1
namespace Go.Proofs.YtcgpcigablefhaaGreatDoor
open Go.RowKit

/-- What the document shows. -/
def DocX (n : Nat) : Prop := ∀ (x : XL) (w : World), In n w x → rightX n x = true → Calls Tryz.prog 19 #[xV x] w fun e W => e = .returned (.string (shB (showX n x))) ∧ Below w.heap.size w W

theorem str_of {s : ByteArray} {l : List UInt8} (h : s.toList = l) : s = shB l := by
  subst h
  rw [shB, ByteArray.toList_eq]

set_option maxRecDepth 100000 in
set_option maxHeartbeats 1000000 in
theorem rsx_value {n : Nat} {w : World} {xo xs xv xc : ByteArray} {xk xn : Int} {xa : Option Addr} {xp : Nat} {l : List XL} (h1 : (xo.toList == [118, 97, 108, 117, 101]) = true) (hr : rightB xk xn xs = true) (hn : fits xn = true) :
    Calls Tryz.prog 19 #[.agg #[.string xo, .int .i64 xk, .int .i64 xn, .string xs, .string xv, .string xc, .slice xa l.length xp]] w fun e W => e = .returned (.string (shB (showX (n + 1) (.mk xo xk xn xs xv xc xa xp l)))) ∧ Below w.heap.size w W := by
  have hE : showX (n + 1) (.mk xo xk xn xs xv xc xa xp l) = showL xk xn xs := show_value (eq_of_beq h1)
  rw [hE]
  have HS : Hid (∀ W, Calls Tryz.prog 48 #[.agg #[.int .i64 xk, .int .i64 xn, .string xs]] W fun e W' => e = .returned (.string (shB (showL xk xn xs))) ∧ Below W.heap.size W W') := fun W => rshow_walk xk xn xs hr hn W
  clear hr hn hE
  generalize shB (showL xk xn xs) = T at *
  go_enter Tryz.func19, Tryz.ntmps19
  go_wp2_with fail
  refine (HS.out _).mono ?_
  rintro e w1 ⟨rfl, hb1⟩
  have HZ := Rw.dh (dig_below_on (Rw.below_alloc w _) hb1)
  clear hb1
  go_wp2
  go_ret
  exact ⟨rfl, HZ.out⟩

set_option maxRecDepth 100000 in
set_option maxHeartbeats 1000000 in
theorem rsx_column {n : Nat} {w : World} {xo xs xv xc : ByteArray} {xk xn : Int} {xa : Option Addr} {xp : Nat} {l : List XL} (h1 : (xo.toList == [118, 97, 108, 117, 101]) = false) (h2 : (xo.toList == [99, 111, 108, 117, 109, 110]) = true) (hv : xv.size ≤ 16) (hc : xc.size ≤ 16) :
    Calls Tryz.prog 19 #[.agg #[.string xo, .int .i64 xk, .int .i64 xn, .string xs, .string xv, .string xc, .slice xa l.length xp]] w fun e W => e = .returned (.string (shB (showX (n + 1) (.mk xo xk xn xs xv xc xa xp l)))) ∧ Below w.heap.size w W := by
  have hE : showX (n + 1) (.mk xo xk xn xs xv xc xa xp l) = colT xv.toList xc.toList := show_column (eq_of_beq h2)
  rw [hE]
  obtain ⟨T, HT⟩ : ∃ T : ByteArray, Hid (shB (colT xv.toList xc.toList) = T) := ⟨_, rfl⟩
  rw [HT.out]
  clear hE
  cases h0 : (xv.toList == [])
  · have HE : Hid (T = xv ++ ⟨#[46]⟩ ++ xc) := by
      show _ = _
      rw [← HT.out, colT, h0]
      symm
      apply str_of
      simp [ByteArray.toList_eq]
    go_enter Tryz.func19, Tryz.ntmps19
    go_wp2
    go_ret
    exact ⟨by rw [HE.out]; rfl, Rw.below_alloc _ _⟩
  · have HE : Hid (T = xc) := by
      show _ = _
      rw [← HT.out, colT, h0]
      symm
      exact str_of rfl
    go_enter Tryz.func19, Tryz.ntmps19
    go_wp2
    go_ret
    exact ⟨by rw [HE.out]; rfl, Rw.below_alloc _ _⟩

set_option maxRecDepth 100000 in
set_option maxHeartbeats 1000000 in
theorem rsx_neg {n : Nat} (IH : DocX n) {w : World} {xo xs xv xc : ByteArray} {xk xn : Int} {xa : Option Addr} {xp : Nat} {k : XL} (hS : Rw.SlG xC 7 w xa [k]) (hI : In n w k) (hr : rightX n k = true) (hL : lenB n ≤ 1000000000000) (h1 : (xo.toList == [118, 97, 108, 117, 101]) = false) (h2 : (xo.toList == [99, 111, 108, 117, 109, 110]) = false) (h3 : (xo.toList == [110, 101, 103]) = true) :
    Calls Tryz.prog 19 #[.agg #[.string xo, .int .i64 xk, .int .i64 xn, .string xs, .string xv, .string xc, .slice xa 1 xp]] w fun e W => e = .returned (.string (shB (showX (n + 1) (.mk xo xk xn xs xv xc xa xp [k])))) ∧ Below w.heap.size w W := by
  have hE : showX (n + 1) (.mk xo xk xn xs xv xc xa xp [k]) = [40, 45, 32] ++ showX n k ++ [41] := show_neg (eq_of_beq h3)
  rw [hE]
  have HC := Rw.dh (fun W (hb : Below w.heap.size w W) => IH k W (hI.on hb) hr)
  have hl := showX_len n k w hI hr
  obtain ⟨T, HT⟩ : ∃ T : ByteArray, Hid (shB ([40, 45, 32] ++ showX n k ++ [41]) = T) := ⟨_, Rw.dh rfl⟩
  rw [HT.out]
  obtain ⟨A, HA⟩ : ∃ A : ByteArray, Hid (shB (showX n k) = A) := ⟨_, rfl⟩
  rw [HA.out] at HC
  have hAs : A.size ≤ 1000000000000 := by rw [← HA.out, ← bal, shB, bl_list]; omega
  have HE : Hid (T = ⟨#[40, 45, 32]⟩ ++ A ++ ⟨#[41]⟩) := by
    show _ = _
    rw [← HT.out, ← HA.out]
    apply ByteArray.ext
    simp [shB]
  obtain ⟨kb, ko, rfl, hkb, c0, c1, c2, c3, c4, c5, c6⟩ := kid0 hS
  have hbA : Below w.heap.size w (w.alloc (.cells #[.string xo, .int .i64 xk, .int .i64 xn, .string xs, .string xv, .string xc, .slice (some ⟨kb, ko, none⟩) 1 xp] 48)) := Rw.below_alloc _ _
  rw [← hbA.cell hkb] at c0 c1 c2 c3 c4 c5 c6
  clear hS hI hr hE IH hbA hl
  have hne : ¬ kb = w.heap.size := by omega
  go_enter Tryz.func19, Tryz.ntmps19
  go_wp2_with fail
  refine (HC.out _ (Rw.below_alloc _ _)).mono ?_
  rintro e w1 ⟨rfl, hb1⟩
  have d0 : w1.cell? ⟨w.heap.size, 0, none⟩ = some (.string xo) := by rw [hb1.cell (by simp)]; simp [go_sem]
  have HZ := Rw.dh (dig_below_on (Rw.below_alloc w _) hb1)
  clear hb1
  go_wp2
  go_ret
  exact ⟨by rw [HE.out]; rfl, HZ.out⟩

set_option maxRecDepth 100000 in
set_option maxHeartbeats 1000000 in
theorem rsx_not {n : Nat} (IH : DocX n) {w : World} {xo xs xv xc : ByteArray} {xk xn : Int} {xa : Option Addr} {xp : Nat} {k : XL} (hS : Rw.SlG xC 7 w xa [k]) (hI : In n w k) (hr : rightX n k = true) (hL : lenB n ≤ 1000000000000) (h1 : (xo.toList == [118, 97, 108, 117, 101]) = false) (h2 : (xo.toList == [99, 111, 108, 117, 109, 110]) = false) (h3 : (xo.toList == [110, 101, 103]) = false) (h4 : (xo.toList == [110, 111, 116]) = true) :
    Calls Tryz.prog 19 #[.agg #[.string xo, .int .i64 xk, .int .i64 xn, .string xs, .string xv, .string xc, .slice xa 1 xp]] w fun e W => e = .returned (.string (shB (showX (n + 1) (.mk xo xk xn xs xv xc xa xp [k])))) ∧ Below w.heap.size w W := by
  have hE : showX (n + 1) (.mk xo xk xn xs xv xc xa xp [k]) = [40, 78, 79, 84, 32] ++ showX n k ++ [41] := show_not (eq_of_beq h4)
  rw [hE]
  have HC := Rw.dh (fun W (hb : Below w.heap.size w W) => IH k W (hI.on hb) hr)
  have hl := showX_len n k w hI hr
  obtain ⟨T, HT⟩ : ∃ T : ByteArray, Hid (shB ([40, 78, 79, 84, 32] ++ showX n k ++ [41]) = T) := ⟨_, Rw.dh rfl⟩
  rw [HT.out]
  obtain ⟨A, HA⟩ : ∃ A : ByteArray, Hid (shB (showX n k) = A) := ⟨_, rfl⟩
  rw [HA.out] at HC
  have hAs : A.size ≤ 1000000000000 := by rw [← HA.out, ← bal, shB, bl_list]; omega
  have HE : Hid (T = ⟨#[40, 78, 79, 84, 32]⟩ ++ A ++ ⟨#[41]⟩) := by
    show _ = _
    rw [← HT.out, ← HA.out]
    apply ByteArray.ext
    simp [shB]
  obtain ⟨kb, ko, rfl, hkb, c0, c1, c2, c3, c4, c5, c6⟩ := kid0 hS
  have hbA : Below w.heap.size w (w.alloc (.cells #[.string xo, .int .i64 xk, .int .i64 xn, .string xs, .string xv, .string xc, .slice (some ⟨kb, ko, none⟩) 1 xp] 48)) := Rw.below_alloc _ _
  rw [← hbA.cell hkb] at c0 c1 c2 c3 c4 c5 c6
  clear hS hI hr hE IH hbA hl
  have hne : ¬ kb = w.heap.size := by omega
  go_enter Tryz.func19, Tryz.ntmps19
  go_wp2_with fail
  refine (HC.out _ (Rw.below_alloc _ _)).mono ?_
  rintro e w1 ⟨rfl, hb1⟩
  have d0 : w1.cell? ⟨w.heap.size, 0, none⟩ = some (.string xo) := by rw [hb1.cell (by simp)]; simp [go_sem]
  have HZ := Rw.dh (dig_below_on (Rw.below_alloc w _) hb1)
  clear hb1
  go_wp2
  go_ret
  exact ⟨by rw [HE.out]; rfl, HZ.out⟩

set_option maxRecDepth 100000 in
set_option maxHeartbeats 1000000 in
theorem rsx_null {n : Nat} (IH : DocX n) {w : World} {xo xs xv xc : ByteArray} {xk xn : Int} {xa : Option Addr} {xp : Nat} {k : XL} (hS : Rw.SlG xC 7 w xa [k]) (hI : In n w k) (hr : rightX n k = true) (hL : lenB n ≤ 1000000000000) (h1 : (xo.toList == [118, 97, 108, 117, 101]) = false) (h2 : (xo.toList == [99, 111, 108, 117, 109, 110]) = false) (h3 : (xo.toList == [110, 101, 103]) = false) (h4 : (xo.toList == [110, 111, 116]) = false) (h5 : (xo.toList == [110, 117, 108, 108]) = true) :
    Calls Tryz.prog 19 #[.agg #[.string xo, .int .i64 xk, .int .i64 xn, .string xs, .string xv, .string xc, .slice xa 1 xp]] w fun e W => e = .returned (.string (shB (showX (n + 1) (.mk xo xk xn xs xv xc xa xp [k])))) ∧ Below w.heap.size w W := by
  have hE : showX (n + 1) (.mk xo xk xn xs xv xc xa xp [k]) = [40] ++ showX n k ++ [32, 73, 83, 32, 78, 85, 76, 76, 41] := show_null (eq_of_beq h5)
  rw [hE]
  have HC := Rw.dh (fun W (hb : Below w.heap.size w W) => IH k W (hI.on hb) hr)
  have hl := showX_len n k w hI hr
  obtain ⟨T, HT⟩ : ∃ T : ByteArray, Hid (shB ([40] ++ showX n k ++ [32, 73, 83, 32, 78, 85, 76, 76, 41]) = T) := ⟨_, Rw.dh rfl⟩
  rw [HT.out]
  obtain ⟨A, HA⟩ : ∃ A : ByteArray, Hid (shB (showX n k) = A) := ⟨_, rfl⟩
  rw [HA.out] at HC
  have hAs : A.size ≤ 1000000000000 := by rw [← HA.out, ← bal, shB, bl_list]; omega
  have HE : Hid (T = ⟨#[40]⟩ ++ A ++ ⟨#[32, 73, 83, 32, 78, 85, 76, 76, 41]⟩) := by
    show _ = _
    rw [← HT.out, ← HA.out]
    apply ByteArray.ext
    simp [shB]
  obtain ⟨kb, ko, rfl, hkb, c0, c1, c2, c3, c4, c5, c6⟩ := kid0 hS
  have hbA : Below w.heap.size w (w.alloc (.cells #[.string xo, .int .i64 xk, .int .i64 xn, .string xs, .string xv, .string xc, .slice (some ⟨kb, ko, none⟩) 1 xp] 48)) := Rw.below_alloc _ _
  rw [← hbA.cell hkb] at c0 c1 c2 c3 c4 c5 c6
  clear hS hI hr hE IH hbA hl
  have hne : ¬ kb = w.heap.size := by omega
  go_enter Tryz.func19, Tryz.ntmps19
  go_wp2_with fail
  refine (HC.out _ (Rw.below_alloc _ _)).mono ?_
  rintro e w1 ⟨rfl, hb1⟩
  have d0 : w1.cell? ⟨w.heap.size, 0, none⟩ = some (.string xo) := by rw [hb1.cell (by simp)]; simp [go_sem]
  have HZ := Rw.dh (dig_below_on (Rw.below_alloc w _) hb1)
  clear hb1
  go_wp2
  go_ret
  exact ⟨by rw [HE.out]; rfl, HZ.out⟩

set_option maxRecDepth 100000 in
set_option maxHeartbeats 1000000 in
set_option linter.unusedVariables false in
theorem rsx_and {n : Nat} (IH : DocX n) {w : World} {xo xs xv xc : ByteArray} {xk xn : Int} {xa : Option Addr} {xp : Nat} {k k' : XL} (hS : Rw.SlG xC 7 w xa [k, k']) (hI : In n w k) (hr : rightX n k = true) (hI' : In n w k') (hr' : rightX n k' = true) (hos : xo.size ≤ 3) (hL : lenB n ≤ 1000000000000) (h1 : (xo.toList == [118, 97, 108, 117, 101]) = false) (h2 : (xo.toList == [99, 111, 108, 117, 109, 110]) = false) (h3 : (xo.toList == [110, 101, 103]) = false) (h4 : (xo.toList == [110, 111, 116]) = false) (h5 : (xo.toList == [110, 117, 108, 108]) = false) (h6 : (xo.toList == [97, 110, 100]) = true) :
    Calls Tryz.prog 19 #[.agg #[.string xo, .int .i64 xk, .int .i64 xn, .string xs, .string xv, .string xc, .slice xa 2 xp]] w fun e W => e = .returned (.string (shB (showX (n + 1) (.mk xo xk xn xs xv xc xa xp [k, k'])))) ∧ Below w.heap.size w W := by
  have hE : showX (n + 1) (.mk xo xk xn xs xv xc xa xp [k, k']) = [40] ++ showX n k ++ ([32] ++ opT xo.toList ++ [32]) ++ showX n k' ++ [41] := show_two h1 h2 h3 h4 h5
  rw [hE]
  have HC := Rw.dh (fun W (hb : Below w.heap.size w W) => IH k W (hI.on hb) hr)
  have HC' := Rw.dh (fun W (hb : Below w.heap.size w W) => IH k' W (hI'.on hb) hr')
  have hl := showX_len n k w hI hr
  have hl' := showX_len n k' w hI' hr'
  obtain ⟨T, HT⟩ : ∃ T : ByteArray, Hid (shB ([40] ++ showX n k ++ ([32] ++ opT xo.toList ++ [32]) ++ showX n k' ++ [41]) = T) := ⟨_, Rw.dh rfl⟩
  rw [HT.out]
  obtain ⟨A, HA⟩ : ∃ A : ByteArray, Hid (shB (showX n k) = A) := ⟨_, Rw.dh rfl⟩
  obtain ⟨A', HA'⟩ : ∃ A' : ByteArray, Hid (shB (showX n k') = A') := ⟨_, Rw.dh rfl⟩
  rw [HA.out] at HC
  rw [HA'.out] at HC'
  have hAs : A.size ≤ 1000000000000 := by rw [← HA.out, ← bal, shB, bl_list]; omega
  have hAs' : A'.size ≤ 1000000000000 := by rw [← HA'.out, ← bal, shB, bl_list]; omega
  have HE : Hid (T = (⟨#[40]⟩ : ByteArray) ++ A ++ (⟨#[32]⟩ : ByteArray) ++ (⟨#[65, 78, 68]⟩ : ByteArray) ++ (⟨#[32]⟩ : ByteArray) ++ A' ++ (⟨#[41]⟩ : ByteArray)) := by
    show _ = _
    rw [← HT.out, ← HA.out, ← HA'.out]
    apply ByteArray.ext
    rw [bl_eq h6]; simp [shB, opT]
  obtain ⟨kb, ko, rfl, hkb, c0, c1, c2, c3, c4, c5, c6⟩ := kid0 hS
  obtain ⟨y0, y1, y2, y3, y4, y5, y6⟩ := kid1 hS
  have hbA : Below w.heap.size w (w.alloc (.cells #[.string xo, .int .i64 xk, .int .i64 xn, .string xs, .string xv, .string xc, .slice (some ⟨kb, ko, none⟩) 2 xp] 48)) := Rw.below_alloc _ _
  have HY : Hid (∀ W, Below w.heap.size w W → W.cell? ⟨kb, ko + 7, none⟩ = some (.string k'.op) ∧ W.cell? ⟨kb, ko + 7 + 1, none⟩ = some (.int .i64 k'.vk) ∧ W.cell? ⟨kb, ko + 7 + 2, none⟩ = some (.int .i64 k'.vn) ∧ W.cell? ⟨kb, ko + 7 + 3, none⟩ = some (.string k'.vs) ∧ W.cell? ⟨kb, ko + 7 + 4, none⟩ = some (.string k'.var) ∧ W.cell? ⟨kb, ko + 7 + 5, none⟩ = some (.string k'.col) ∧ W.cell? ⟨kb, ko + 7 + 6, none⟩ = some (.slice k'.a k'.kids.length k'.c)) := fun W hb => by
    refine ⟨?_, ?_, ?_, ?_, ?_, ?_, ?_⟩ <;> rw [hb.cell hkb] <;> assumption
  rw [← hbA.cell hkb] at c0 c1 c2 c3 c4 c5 c6
  clear hS hI hr hI' hr' hE IH hbA hl hl' y0 y1 y2 y3 y4 y5 y6
  have hne : ¬ kb = w.heap.size := by omega
  go_enter Tryz.func19, Tryz.ntmps19
  go_wp2_with fail
  refine (HC.out _ (Rw.below_alloc _ _)).mono ?_
  rintro e w1 ⟨rfl, hb1⟩
  have d0 : w1.cell? ⟨w.heap.size, 0, none⟩ = some (.string xo) := by rw [hb1.cell (by simp)]; simp [go_sem]
  have d6 : w1.cell? ⟨w.heap.size, 6, none⟩ = some (.slice (some ⟨kb, ko, none⟩) 2 xp) := by rw [hb1.cell (by simp)]; simp [go_sem]
  have HZ := Rw.dh (dig_below_on (Rw.below_alloc w _) hb1)
  obtain ⟨y0, y1, y2, y3, y4, y5, y6⟩ := HY.out w1 HZ.out
  clear hb1 c0 c1 c2 c3 c4 c5 c6
  go_wp2_with fail
  refine (HC'.out _ HZ.out).mono ?_
  rintro e w2 ⟨rfl, hb2⟩
  have HZ2 := Rw.dh (dig_below_on HZ.out hb2)
  clear hb2
  go_wp2
  go_ret
  exact ⟨by rw [HE.out]; rfl, HZ2.out⟩

set_option maxRecDepth 100000 in
set_option maxHeartbeats 1000000 in
set_option linter.unusedVariables false in
theorem rsx_or {n : Nat} (IH : DocX n) {w : World} {xo xs xv xc : ByteArray} {xk xn : Int} {xa : Option Addr} {xp : Nat} {k k' : XL} (hS : Rw.SlG xC 7 w xa [k, k']) (hI : In n w k) (hr : rightX n k = true) (hI' : In n w k') (hr' : rightX n k' = true) (hos : xo.size ≤ 3) (hL : lenB n ≤ 1000000000000) (h1 : (xo.toList == [118, 97, 108, 117, 101]) = false) (h2 : (xo.toList == [99, 111, 108, 117, 109, 110]) = false) (h3 : (xo.toList == [110, 101, 103]) = false) (h4 : (xo.toList == [110, 111, 116]) = false) (h5 : (xo.toList == [110, 117, 108, 108]) = false) (h6 : (xo.toList == [97, 110, 100]) = false) (h7 : (xo.toList == [111, 114]) = true) :
    Calls Tryz.prog 19 #[.agg #[.string xo, .int .i64 xk, .int .i64 xn, .string xs, .string xv, .string xc, .slice xa 2 xp]] w fun e W => e = .returned (.string (shB (showX (n + 1) (.mk xo xk xn xs xv xc xa xp [k, k'])))) ∧ Below w.heap.size w W := by
  have hE : showX (n + 1) (.mk xo xk xn xs xv xc xa xp [k, k']) = [40] ++ showX n k ++ ([32] ++ opT xo.toList ++ [32]) ++ showX n k' ++ [41] := show_two h1 h2 h3 h4 h5
  rw [hE]
  have HC := Rw.dh (fun W (hb : Below w.heap.size w W) => IH k W (hI.on hb) hr)
  have HC' := Rw.dh (fun W (hb : Below w.heap.size w W) => IH k' W (hI'.on hb) hr')
  have hl := showX_len n k w hI hr
  have hl' := showX_len n k' w hI' hr'
  obtain ⟨T, HT⟩ : ∃ T : ByteArray, Hid (shB ([40] ++ showX n k ++ ([32] ++ opT xo.toList ++ [32]) ++ showX n k' ++ [41]) = T) := ⟨_, Rw.dh rfl⟩
  rw [HT.out]
  obtain ⟨A, HA⟩ : ∃ A : ByteArray, Hid (shB (showX n k) = A) := ⟨_, Rw.dh rfl⟩
  obtain ⟨A', HA'⟩ : ∃ A' : ByteArray, Hid (shB (showX n k') = A') := ⟨_, Rw.dh rfl⟩
  rw [HA.out] at HC
  rw [HA'.out] at HC'
  have hAs : A.size ≤ 1000000000000 := by rw [← HA.out, ← bal, shB, bl_list]; omega
  have hAs' : A'.size ≤ 1000000000000 := by rw [← HA'.out, ← bal, shB, bl_list]; omega
  have HE : Hid (T = (⟨#[40]⟩ : ByteArray) ++ A ++ (⟨#[32]⟩ : ByteArray) ++ (⟨#[79, 82]⟩ : ByteArray) ++ (⟨#[32]⟩ : ByteArray) ++ A' ++ (⟨#[41]⟩ : ByteArray)) := by
    show _ = _
    rw [← HT.out, ← HA.out, ← HA'.out]
    apply ByteArray.ext
    rw [bl_eq h7]; simp [shB, opT]
  obtain ⟨kb, ko, rfl, hkb, c0, c1, c2, c3, c4, c5, c6⟩ := kid0 hS
  obtain ⟨y0, y1, y2, y3, y4, y5, y6⟩ := kid1 hS
  have hbA : Below w.heap.size w (w.alloc (.cells #[.string xo, .int .i64 xk, .int .i64 xn, .string xs, .string xv, .string xc, .slice (some ⟨kb, ko, none⟩) 2 xp] 48)) := Rw.below_alloc _ _
  have HY : Hid (∀ W, Below w.heap.size w W → W.cell? ⟨kb, ko + 7, none⟩ = some (.string k'.op) ∧ W.cell? ⟨kb, ko + 7 + 1, none⟩ = some (.int .i64 k'.vk) ∧ W.cell? ⟨kb, ko + 7 + 2, none⟩ = some (.int .i64 k'.vn) ∧ W.cell? ⟨kb, ko + 7 + 3, none⟩ = some (.string k'.vs) ∧ W.cell? ⟨kb, ko + 7 + 4, none⟩ = some (.string k'.var) ∧ W.cell? ⟨kb, ko + 7 + 5, none⟩ = some (.string k'.col) ∧ W.cell? ⟨kb, ko + 7 + 6, none⟩ = some (.slice k'.a k'.kids.length k'.c)) := fun W hb => by
    refine ⟨?_, ?_, ?_, ?_, ?_, ?_, ?_⟩ <;> rw [hb.cell hkb] <;> assumption
  rw [← hbA.cell hkb] at c0 c1 c2 c3 c4 c5 c6
  clear hS hI hr hI' hr' hE IH hbA hl hl' y0 y1 y2 y3 y4 y5 y6
  have hne : ¬ kb = w.heap.size := by omega
  go_enter Tryz.func19, Tryz.ntmps19
  go_wp2_with fail
  refine (HC.out _ (Rw.below_alloc _ _)).mono ?_
  rintro e w1 ⟨rfl, hb1⟩
  have d0 : w1.cell? ⟨w.heap.size, 0, none⟩ = some (.string xo) := by rw [hb1.cell (by simp)]; simp [go_sem]
  have d6 : w1.cell? ⟨w.heap.size, 6, none⟩ = some (.slice (some ⟨kb, ko, none⟩) 2 xp) := by rw [hb1.cell (by simp)]; simp [go_sem]
  have HZ := Rw.dh (dig_below_on (Rw.below_alloc w _) hb1)
  obtain ⟨y0, y1, y2, y3, y4, y5, y6⟩ := HY.out w1 HZ.out
  clear hb1 c0 c1 c2 c3 c4 c5 c6
  go_wp2_with fail
  refine (HC'.out _ HZ.out).mono ?_
  rintro e w2 ⟨rfl, hb2⟩
  have HZ2 := Rw.dh (dig_below_on HZ.out hb2)
  clear hb2
  go_wp2
  go_ret
  exact ⟨by rw [HE.out]; rfl, HZ2.out⟩

set_option maxRecDepth 100000 in
set_option maxHeartbeats 1000000 in
set_option linter.unusedSimpArgs false in
theorem rsx_sym {n : Nat} (IH : DocX n) {w : World} {xo xs xv xc : ByteArray} {xk xn : Int} {xa : Option Addr} {xp : Nat} {k k' : XL} (hS : Rw.SlG xC 7 w xa [k, k']) (hI : In n w k) (hr : rightX n k = true) (hI' : In n w k') (hr' : rightX n k' = true) (hos : xo.size ≤ 3) (hL : lenB n ≤ 1000000000000) (h1 : (xo.toList == [118, 97, 108, 117, 101]) = false) (h2 : (xo.toList == [99, 111, 108, 117, 109, 110]) = false) (h3 : (xo.toList == [110, 101, 103]) = false) (h4 : (xo.toList == [110, 111, 116]) = false) (h5 : (xo.toList == [110, 117, 108, 108]) = false) (h6 : (xo.toList == [97, 110, 100]) = false) (h7 : (xo.toList == [111, 114]) = false) :
    Calls Tryz.prog 19 #[.agg #[.string xo, .int .i64 xk, .int .i64 xn, .string xs, .string xv, .string xc, .slice xa 2 xp]] w fun e W => e = .returned (.string (shB (showX (n + 1) (.mk xo xk xn xs xv xc xa xp [k, k'])))) ∧ Below w.heap.size w W := by
  have hE : showX (n + 1) (.mk xo xk xn xs xv xc xa xp [k, k']) = [40] ++ showX n k ++ ([32] ++ opT xo.toList ++ [32]) ++ showX n k' ++ [41] := show_two h1 h2 h3 h4 h5
  rw [hE]
  have HC := Rw.dh (fun W (hb : Below w.heap.size w W) => IH k W (hI.on hb) hr)
  have HC' := Rw.dh (fun W (hb : Below w.heap.size w W) => IH k' W (hI'.on hb) hr')
  have hl := showX_len n k w hI hr
  have hl' := showX_len n k' w hI' hr'
  obtain ⟨T, HT⟩ : ∃ T : ByteArray, Hid (shB ([40] ++ showX n k ++ ([32] ++ opT xo.toList ++ [32]) ++ showX n k' ++ [41]) = T) := ⟨_, Rw.dh rfl⟩
  rw [HT.out]
  obtain ⟨A, HA⟩ : ∃ A : ByteArray, Hid (shB (showX n k) = A) := ⟨_, Rw.dh rfl⟩
  obtain ⟨A', HA'⟩ : ∃ A' : ByteArray, Hid (shB (showX n k') = A') := ⟨_, Rw.dh rfl⟩
  rw [HA.out] at HC
  rw [HA'.out] at HC'
  have hAs : A.size ≤ 1000000000000 := by rw [← HA.out, ← bal, shB, bl_list]; omega
  have hAs' : A'.size ≤ 1000000000000 := by rw [← HA'.out, ← bal, shB, bl_list]; omega
  have HE : Hid (T = (⟨#[40]⟩ : ByteArray) ++ A ++ (⟨#[32]⟩ : ByteArray) ++ xo ++ (⟨#[32]⟩ : ByteArray) ++ A' ++ (⟨#[41]⟩ : ByteArray)) := by
    show _ = _
    rw [← HT.out, ← HA.out, ← HA'.out]
    apply ByteArray.ext
    simp [shB, opT, h6, h7, ByteArray.toList_eq]; simp at h6 h7; simp [ByteArray.toList_eq] at h6 h7; simp [h6, h7]
  obtain ⟨kb, ko, rfl, hkb, c0, c1, c2, c3, c4, c5, c6⟩ := kid0 hS
  obtain ⟨y0, y1, y2, y3, y4, y5, y6⟩ := kid1 hS
  have hbA : Below w.heap.size w (w.alloc (.cells #[.string xo, .int .i64 xk, .int .i64 xn, .string xs, .string xv, .string xc, .slice (some ⟨kb, ko, none⟩) 2 xp] 48)) := Rw.below_alloc _ _
  have HY : Hid (∀ W, Below w.heap.size w W → W.cell? ⟨kb, ko + 7, none⟩ = some (.string k'.op) ∧ W.cell? ⟨kb, ko + 7 + 1, none⟩ = some (.int .i64 k'.vk) ∧ W.cell? ⟨kb, ko + 7 + 2, none⟩ = some (.int .i64 k'.vn) ∧ W.cell? ⟨kb, ko + 7 + 3, none⟩ = some (.string k'.vs) ∧ W.cell? ⟨kb, ko + 7 + 4, none⟩ = some (.string k'.var) ∧ W.cell? ⟨kb, ko + 7 + 5, none⟩ = some (.string k'.col) ∧ W.cell? ⟨kb, ko + 7 + 6, none⟩ = some (.slice k'.a k'.kids.length k'.c)) := fun W hb => by
    refine ⟨?_, ?_, ?_, ?_, ?_, ?_, ?_⟩ <;> rw [hb.cell hkb] <;> assumption
  rw [← hbA.cell hkb] at c0 c1 c2 c3 c4 c5 c6
  clear hS hI hr hI' hr' hE IH hbA hl hl' y0 y1 y2 y3 y4 y5 y6
  have hne : ¬ kb = w.heap.size := by omega
  go_enter Tryz.func19, Tryz.ntmps19
  go_wp2_with fail
  refine (HC.out _ (Rw.below_alloc _ _)).mono ?_
  rintro e w1 ⟨rfl, hb1⟩
  have d0 : w1.cell? ⟨w.heap.size, 0, none⟩ = some (.string xo) := by rw [hb1.cell (by simp)]; simp [go_sem]
  have d6 : w1.cell? ⟨w.heap.size, 6, none⟩ = some (.slice (some ⟨kb, ko, none⟩) 2 xp) := by rw [hb1.cell (by simp)]; simp [go_sem]
  have HZ := Rw.dh (dig_below_on (Rw.below_alloc w _) hb1)
  obtain ⟨y0, y1, y2, y3, y4, y5, y6⟩ := HY.out w1 HZ.out
  clear hb1 c0 c1 c2 c3 c4 c5 c6
  go_wp2_with fail
  refine (HC'.out _ HZ.out).mono ?_
  rintro e w2 ⟨rfl, hb2⟩
  have HZ2 := Rw.dh (dig_below_on HZ.out hb2)
  clear hb2
  go_wp2
  go_ret
  exact ⟨by rw [HE.out]; rfl, HZ2.out⟩

theorem doc_walk : ∀ n, lenB n ≤ 1000000000000 → DocX n
  | 0 => fun _ _ _ _ h => by cases h
  | n + 1 => fun hL x w hI hr => by
    have hL' : lenB n ≤ 1000000000000 := by have e : lenB (n + 1) = 3 * lenB n := rfl; omega
    have IH := doc_walk n hL'
    obtain ⟨xo, xk, xn, xs, xv, xc, xa, xp, l⟩ := x
    cases h1 : (xo.toList == [118, 97, 108, 117, 101])
    · cases h2 : (xo.toList == [99, 111, 108, 117, 109, 110])
      · rcases right_other h1 h2 hr with ⟨k, rfl, hk, ho⟩ | ⟨k, k', rfl, hk, hk', hT, h3, h4, h5⟩
        · have hIk : In n w k := hI.2.2 k List.mem_cons_self
          rcases ho with e | e | e
          · exact rsx_neg IH hI.2.1 hIk hk hL' h1 h2 (by show (xo.toList == _) = _; rw [e]; rfl)
          · exact rsx_not IH hI.2.1 hIk hk hL' h1 h2 (by show (xo.toList == _) = _; rw [e]; rfl) (by show (xo.toList == _) = _; rw [e]; rfl)
          · exact rsx_null IH hI.2.1 hIk hk hL' h1 h2 (by show (xo.toList == _) = _; rw [e]; rfl) (by show (xo.toList == _) = _; rw [e]; rfl) (by show (xo.toList == _) = _; rw [e]; rfl)
        · have hIk : In n w k := hI.2.2 k List.mem_cons_self
          have hIk' : In n w k' := hI.2.2 k' (by show k' ∈ [k, k']; simp)
          have hos : xo.size ≤ 3 := by rw [← bal]; exact two_len hT
          cases h6 : (xo.toList == [97, 110, 100])
          · cases h7 : (xo.toList == [111, 114])
            · exact rsx_sym IH hI.2.1 hIk hk hIk' hk' hos hL' h1 h2 h3 h4 h5 h6 h7
            · exact rsx_or IH hI.2.1 hIk hk hIk' hk' hos hL' h1 h2 h3 h4 h5 h6 h7
          · exact rsx_and IH hI.2.1 hIk hk hIk' hk' hos hL' h1 h2 h3 h4 h5 h6
      · have hr' := hr
        rw [rightX_column h2] at hr'
        simp only [Bool.and_eq_true, Bool.or_eq_true, beq_iff_eq, decide_eq_true_eq] at hr'
        refine rsx_column h1 h2 ?_ (nameB_size hr'.2.1.2)
        rcases hr'.2.2 with e | e
        · show xv.size ≤ 16
          rw [emp_size e]; omega
        · exact nameB_size e
    · have hr' := hr
      rw [rightX_value h1] at hr'
      simp only [Bool.and_eq_true] at hr'
      exact rsx_value h1 hr'.2.1.2 hI.1.n
end Go.Proofs.YtcgpcigablefhaaGreatDoor
