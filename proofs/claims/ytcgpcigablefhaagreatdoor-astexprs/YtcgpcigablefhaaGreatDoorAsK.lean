/-
  Ast: writeKid, writeExpr.
-/
import Derived.Test.YtcgpcigablefhaaGreatDoorAsJ
import Derived.Test.YtcgpcigablefhaaGreatDoorAsFl
namespace Go.Proofs.YtcgpcigablefhaaGreatDoor
open Go.RowKit

/-- How long a text may be. -/
def lenB : Nat → Nat
  | 0 => 100
  | n + 1 => 3 * lenB n
theorem lenB_ge : ∀ n, 100 ≤ lenB n
  | 0 => Nat.le_refl _
  | n + 1 => by have := lenB_ge n; show 100 ≤ 3 * lenB n; omega

theorem bal (s : ByteArray) : s.toList.length = s.size := by rw [ByteArray.toList_eq]; rfl
theorem nameB_size {s : ByteArray} (h : nameB s = true) : s.size ≤ 16 := by
  unfold nameB at h
  split at h
  · simp only [Bool.and_eq_true, decide_eq_true_eq] at h; exact h.1.1
  · cases h
theorem emp_size {s : ByteArray} (h : s.toList = []) : s.size = 0 := by rw [← bal, h]; rfl

theorem showL_len {k n : Int} {s : ByteArray} (h : rightB k n s = true) (hn : fits n = true) : (showL k n s).length ≤ 60 := by
  rcases right_cases h with ⟨rfl, rfl, rfl⟩ | ⟨rfl, rfl | rfl, rfl⟩ | ⟨rfl, rfl⟩ | ⟨rfl, rfl, hs⟩
  · decide
  · decide
  · decide
  · rw [fits_iff] at hn
    have e25 : (10 : Nat) ^ (24 + 1) = 10000000000000000000000000 := by decide
    show (Lib.itoa n).length ≤ 60
    unfold Lib.itoa
    split
    · have := dec_len 24 n.natAbs (by rw [e25]; omega)
      simp only [List.length_cons]
      omega
    · have := dec_len 24 n.toNat (by rw [e25]; omega)
      omega
  · have h1 := each_length 39 [39, 39] s.data.toList (by decide)
    have h2 : s.data.toList.length = s.size := rfl
    show (39 :: (each 39 [39, 39] s.data.toList ++ [39])).length ≤ 60
    simp only [List.length_cons, List.length_append, List.length_nil]
    omega

/-- The Ops of two are short. -/
theorem two_len {s : ByteArray} (h : isTwo s = true) : s.toList.length ≤ 3 := by
  unfold isTwo at h
  rw [List.contains_iff_mem] at h
  have : ∀ l ∈ ops2, l.length ≤ 3 := by decide
  exact this _ h
theorem two_upper {s : ByteArray} (h : isTwo s = true) : Lib.toUpperA s.toList = opT s.toList := by
  unfold isTwo at h
  rw [List.contains_iff_mem] at h
  have : ∀ l ∈ ops2, Lib.toUpperA l = opT l := by decide
  exact this _ h
theorem two_ascii {s : ByteArray} (h : isTwo s = true) : ∀ b ∈ s.toList, b.toNat < 128 := by
  unfold isTwo at h
  rw [List.contains_iff_mem] at h
  have : ∀ l ∈ ops2, ∀ b ∈ l, b.toNat < 128 := by decide
  exact this _ h

/-- What is written of an expression. -/
def WrX (n : Nat) : Prop := ∀ (x : XL) (w0 w : World) (b : Nat) (acc : List UInt8), Bl w0 b acc w → In n w0 x → LibV w0 → rightX n x = true → acc.length + lenB n ≤ 140737488355328 →
  Calls Tryz.prog 74 #[.pointer (some ⟨b, 0, none⟩), xV x] w fun e W => e = .returned (.tuple #[]) ∧ Bl w0 b (acc ++ showX n x) W ∧ Kp b w W

/-- A right expression that is neither a value nor a column. -/
theorem right_other {n : Nat} {xo : ByteArray} {xk xn : Int} {xs xv xc : ByteArray} {xa : Option Addr} {xp : Nat} {l : List XL} (h1 : (xo.toList == oVALUE) = false) (h2 : (xo.toList == oCOLUMN) = false) (h : rightX (n + 1) (.mk xo xk xn xs xv xc xa xp l) = true) :
    (∃ k, l = [k] ∧ rightX n k = true ∧ (xo.toList = oNEG ∨ xo.toList = oNOT ∨ xo.toList = oNULL)) ∨ (∃ k k', l = [k, k'] ∧ rightX n k = true ∧ rightX n k' = true ∧ isTwo xo = true ∧ (xo.toList == oNEG) = false ∧ (xo.toList == oNOT) = false ∧ (xo.toList == oNULL) = false) := by
  have hk : (l.length : Int) = kidsI xo := kids_of_right h
  have hall : l.all (rightX n) = true := by
    have h' := h
    rw [rightX_other (m := l.length) h1 h2 hk.symm] at h'
    simp only [Bool.and_eq_true] at h'
    exact h'.2.2
  unfold kidsI at hk
  rw [h1, h2] at hk
  simp only [Bool.or_self, Bool.false_eq_true, if_false] at hk
  cases c1 : ops1.contains xo.toList
  · rw [c1] at hk
    simp only [Bool.false_eq_true, if_false] at hk
    cases c2 : ops2.contains xo.toList
    · rw [c2] at hk
      simp only [Bool.false_eq_true, if_false] at hk
      omega
    · rw [c2, if_pos rfl] at hk
      right
      match l, hk, hall with
      | [k, k'], _, ha =>
        simp only [List.all_cons, List.all_nil, Bool.and_true, Bool.and_eq_true] at ha
        simp only [ops1, List.contains_cons, List.contains_nil, Bool.or_false, Bool.or_eq_false_iff] at c1
        exact ⟨k, k', rfl, ha.1, ha.2, c2, c1.1, c1.2.1, c1.2.2⟩
      | [], hk, _ => simp at hk
      | [_], hk, _ => simp at hk
      | _ :: _ :: _ :: _, hk, _ => simp at hk; omega
  · rw [c1, if_pos rfl] at hk
    left
    match l, hk, hall with
    | [k], _, ha =>
      simp only [List.all_cons, List.all_nil, Bool.and_true] at ha
      refine ⟨k, rfl, ha, ?_⟩
      rw [List.contains_iff_mem] at c1
      simpa [ops1] using c1
    | [], hk, _ => simp at hk
    | _ :: _ :: _, hk, _ => simp at hk; omega

theorem showX_len : ∀ (n : Nat) (x : XL) (w : World), In n w x → rightX n x = true → (showX n x).length ≤ lenB n
  | 0, _, _, _, h => by cases h
  | n + 1, .mk xo xk xn xs xv xc xa xp l, w, hi, hr => by
    have h100 := lenB_ge n
    show (showX (n + 1) (.mk xo xk xn xs xv xc xa xp l)).length ≤ 3 * lenB n
    cases h1 : (xo.toList == oVALUE)
    · cases h2 : (xo.toList == oCOLUMN)
      · rcases right_other h1 h2 hr with ⟨k, rfl, hk, ho⟩ | ⟨k, k', rfl, hk, hk', hT, h3, h4, h5⟩
        · have hl := showX_len n k w (hi.2.2 k List.mem_cons_self) hk
          rcases ho with e | e | e
          · rw [show_neg e]; simp; omega
          · rw [show_not e]; simp; omega
          · rw [show_null e]; simp; omega
        · have hl := showX_len n k w (hi.2.2 k List.mem_cons_self) hk
          have hl' := showX_len n k' w (hi.2.2 k' (by show k' ∈ [k, k']; simp)) hk'
          have ht := two_len hT
          have ho := opT_len xo.toList
          rw [show_two h1 h2 h3 h4 h5]
          simp
          omega
      · rw [rightX_column h2] at hr
        simp only [Bool.and_eq_true, Bool.or_eq_true, beq_iff_eq, decide_eq_true_eq] at hr
        have hc := nameB_size hr.2.1.2
        have hb := bal xc
        rw [show_column (eq_of_beq h2)]
        unfold colT
        split
        · omega
        · rcases hr.2.2 with e | e
          · rename_i hne; rw [e] at hne; simp at hne
          · have hv := nameB_size e
            have hb2 := bal xv
            simp
            omega
    · rw [rightX_value h1] at hr
      simp only [Bool.and_eq_true] at hr
      have hl := showL_len hr.2.1.2 (show fits xn = true from hi.1.n)
      rw [show_value (eq_of_beq h1)]
      omega

set_option maxRecDepth 100000 in
set_option maxHeartbeats 1000000 in
theorem wk_walk {n : Nat} (IH : WrX n) (hLen : ∀ (x : XL) (w : World), In n w x → rightX n x = true → (showX n x).length ≤ lenB n) {x : XL} {w0 w : World} {b : Nat} {acc : List UInt8} (h : Bl w0 b acc w) (hI : In n w0 x) (hV : LibV w0) (hr : rightX n x = true) (s1 s2 : ByteArray) (h1 : s1.size ≤ 20) (h2 : s2.size ≤ 20) (hl : acc.length + lenB n + 40 ≤ 140737488355328) :
    Calls Tryz.prog 93 #[.pointer (some ⟨b, 0, none⟩), .string s1, xV x, .string s2] w fun e W => e = .returned (.tuple #[]) ∧ Bl w0 b (acc ++ s1.toList ++ showX n x ++ s2.toList) W ∧ Kp b w W := by
  have HB := Rw.dh h
  have HL1 := Rw.dh (bal s1)
  have HLx := Rw.dh (hLen x w0 hI hr)
  have HC := Rw.dh (fun w acc hb hl => IH x w0 w b acc hb hI hV hr hl)
  clear h hI hV hr IH hLen
  obtain ⟨xo, xk, xn, xs, xv, xc, xa, xp, l⟩ := x
  show Calls Tryz.prog 93 #[.pointer (some ⟨b, 0, none⟩), .string s1, .agg #[.string xo, .int .i64 xk, .int .i64 xn, .string xs, .string xv, .string xc, .slice xa l.length xp], .string s2] w _
  go_enter Tryz.func93, Tryz.ntmps93
  go_wp2_with fail
  refine (ws_bl (HB.out.on (Rw.below_alloc _ _)) s1 (by omega)).mono ?_
  rintro e w1 ⟨rfl, hb1, hk1⟩
  have hl1 : (acc ++ s1.toList).length = acc.length + s1.size := by rw [List.length_append, HL1.out]
  have p1 := kp_at (by decide) (Rw.heap_new w (.cells #[.string xo, .int .i64 xk, .int .i64 xn, .string xs, .string xv, .string xc, .slice xa l.length xp] 44)) (Nat.ne_of_gt HB.out.lt) hk1
  have d0 : w1.cell? ⟨w.heap.size, 0, none⟩ = some (.string xo) := by rw [cell_of_row _ _ _ _ _ _ p1]; rfl
  have d1 : w1.cell? ⟨w.heap.size, 1, none⟩ = some (.int .i64 xk) := by rw [cell_of_row _ _ _ _ _ _ p1]; rfl
  have d2 : w1.cell? ⟨w.heap.size, 2, none⟩ = some (.int .i64 xn) := by rw [cell_of_row _ _ _ _ _ _ p1]; rfl
  have d3 : w1.cell? ⟨w.heap.size, 3, none⟩ = some (.string xs) := by rw [cell_of_row _ _ _ _ _ _ p1]; rfl
  have d4 : w1.cell? ⟨w.heap.size, 4, none⟩ = some (.string xv) := by rw [cell_of_row _ _ _ _ _ _ p1]; rfl
  have d5 : w1.cell? ⟨w.heap.size, 5, none⟩ = some (.string xc) := by rw [cell_of_row _ _ _ _ _ _ p1]; rfl
  have d6 : w1.cell? ⟨w.heap.size, 6, none⟩ = some (.slice xa l.length xp) := by rw [cell_of_row _ _ _ _ _ _ p1]; rfl
  have HK1 := Rw.dh ((kp_alloc b w _).trans hk1)
  have HB1 := Rw.dh hb1
  clear hk1 p1 hb1
  go_wp2_with fail
  refine (HC.out w1 _ HB1.out (by omega)).mono ?_
  rintro e w2 ⟨rfl, hb2, hk2⟩
  have HK2 := Rw.dh (HK1.out.trans hk2)
  have HB2 := Rw.dh hb2
  clear hk2 hb2 d0 d1 d2 d3 d4 d5 d6
  go_wp2_with fail
  refine (ws_bl HB2.out s2 (by rw [List.length_append]; have := HLx.out; omega)).mono ?_
  rintro e w3 ⟨rfl, hb3, hk3⟩
  have HZ := Rw.dh (And.intro hb3 (HK2.out.trans hk3))
  clear hb3 hk3
  go_wp2
  go_end0
  exact ⟨rfl, HZ.out⟩
end Go.Proofs.YtcgpcigablefhaaGreatDoor
