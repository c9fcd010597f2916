/-
  Ast: what RightExpr comes to, by the Op.
-/
import Derived.Test.YtcgpcigablefhaaGreatDoorAsB
import Derived.Test.YtcgpcigablefhaaGreatDoorAsE
namespace Go.Proofs.YtcgpcigablefhaaGreatDoor
open Go.RowKit

theorem kidsI_value {s : ByteArray} (h : (s.toList == [118, 97, 108, 117, 101]) = true) : kidsI s = 0 := by
  unfold kidsI; rw [bl_eq h]; decide
theorem kidsI_column {s : ByteArray} (h : (s.toList == [99, 111, 108, 117, 109, 110]) = true) : kidsI s = 0 := by
  unfold kidsI; rw [bl_eq h]; decide
theorem rightX_value {n : Nat} {xo : ByteArray} {xk xn : Int} {xs xv xc : ByteArray} {xa : Option Addr} {xp : Nat} {l : List XL} (h : (xo.toList == [118, 97, 108, 117, 101]) = true) : rightX (n + 1) (.mk xo xk xn xs xv xc xa xp l) = (decide (l.length = 0) && (xv.toList == [] && xc.toList == [] && rightB xk xn xs && decide (0 ≤ xn))) := by
  show (decide (((l.length : Nat) : Int) = kidsI xo) && (if (xo.toList == oVALUE) = true then xv.toList == [] && xc.toList == [] && rightB xk xn xs && decide (0 ≤ xn) else if (xo.toList == oCOLUMN) = true then (xk == 0 && xn == 0 && xs.toList == []) && nameB xc && (xv.toList == [] || nameB xv) else (xk == 0 && xn == 0 && xs.toList == []) && xv.toList == [] && xc.toList == [] && l.all (rightX n))) = _
  rw [kidsI_value h, if_pos (show (xo.toList == oVALUE) = true from h)]
  congr 1
  rw [Bool.eq_iff_iff]; simp
theorem rightX_column {n : Nat} {xo : ByteArray} {xk xn : Int} {xs xv xc : ByteArray} {xa : Option Addr} {xp : Nat} {l : List XL} (h : (xo.toList == [99, 111, 108, 117, 109, 110]) = true) : rightX (n + 1) (.mk xo xk xn xs xv xc xa xp l) = (decide (l.length = 0) && (xk == 0 && xn == 0 && xs.toList == [] && nameB xc && (xv.toList == [] || nameB xv))) := by
  show (decide (((l.length : Nat) : Int) = kidsI xo) && (if (xo.toList == oVALUE) = true then xv.toList == [] && xc.toList == [] && rightB xk xn xs && decide (0 ≤ xn) else if (xo.toList == oCOLUMN) = true then (xk == 0 && xn == 0 && xs.toList == []) && nameB xc && (xv.toList == [] || nameB xv) else (xk == 0 && xn == 0 && xs.toList == []) && xv.toList == [] && xc.toList == [] && l.all (rightX n))) = _
  rw [kidsI_column h, if_neg (show ¬ (xo.toList == oVALUE) = true by rw [bl_eq h]; decide), if_pos (show (xo.toList == oCOLUMN) = true from h)]
  congr 1
  rw [Bool.eq_iff_iff]; simp
theorem right_neg {k n : Int} {s : ByteArray} : rightB k n s = true → ¬ k = 2 → 0 ≤ n := fun h hk => by
  rcases right_cases h with ⟨rfl, rfl, rfl⟩ | ⟨rfl, rfl | rfl, rfl⟩ | ⟨rfl, rfl⟩ | ⟨rfl, rfl, hs⟩
  · omega
  · omega
  · omega
  · exact absurd rfl hk
  · omega

theorem rightX_other {n : Nat} {xo : ByteArray} {xk xn : Int} {xs xv xc : ByteArray} {xa : Option Addr} {xp : Nat} {l : List XL} {m : Nat} (h1 : (xo.toList == [118, 97, 108, 117, 101]) = false) (h2 : (xo.toList == [99, 111, 108, 117, 109, 110]) = false) (hk : kidsI xo = m) : rightX (n + 1) (.mk xo xk xn xs xv xc xa xp l) = (decide (l.length = m) && (xk == 0 && xn == 0 && xs.toList == [] && xv.toList == [] && xc.toList == [] && l.all (rightX n))) := by
  show (decide (((l.length : Nat) : Int) = kidsI xo) && (if (xo.toList == oVALUE) = true then xv.toList == [] && xc.toList == [] && rightB xk xn xs && decide (0 ≤ xn) else if (xo.toList == oCOLUMN) = true then (xk == 0 && xn == 0 && xs.toList == []) && nameB xc && (xv.toList == [] || nameB xv) else (xk == 0 && xn == 0 && xs.toList == []) && xv.toList == [] && xc.toList == [] && l.all (rightX n))) = _
  rw [hk, if_neg (show ¬ (xo.toList == oVALUE) = true from fun e => by rw [show (xo.toList == oVALUE) = false from h1] at e; cases e), if_neg (show ¬ (xo.toList == oCOLUMN) = true from fun e => by rw [show (xo.toList == oCOLUMN) = false from h2] at e; cases e)]
  congr 1
  rw [Bool.eq_iff_iff]; simp; omega
theorem kidsI_two {s : ByteArray} (h1 : (s.toList == [118, 97, 108, 117, 101]) = false) (h2 : (s.toList == [99, 111, 108, 117, 109, 110]) = false) (h3 : (s.toList == [110, 101, 103]) = false) (h4 : (s.toList == [110, 111, 116]) = false) (h5 : (s.toList == [110, 117, 108, 108]) = false) (hT : isTwo s = true) : kidsI s = (2 : Nat) := by
  unfold isTwo at hT
  simp only [kidsI, oVALUE, oCOLUMN, ops1, oNEG, oNOT, oNULL, List.contains_cons, List.contains_nil, h1, h2, h3, h4, h5, hT, Bool.or_false, Bool.false_eq_true, if_false, if_true]
  rfl
theorem rightX_none {n : Nat} {xo : ByteArray} {xk xn : Int} {xs xv xc : ByteArray} {xa : Option Addr} {xp : Nat} {l : List XL} (h1 : (xo.toList == [118, 97, 108, 117, 101]) = false) (h2 : (xo.toList == [99, 111, 108, 117, 109, 110]) = false) (h3 : (xo.toList == [110, 101, 103]) = false) (h4 : (xo.toList == [110, 111, 116]) = false) (h5 : (xo.toList == [110, 117, 108, 108]) = false) (hT : isTwo xo = false) : rightX (n + 1) (.mk xo xk xn xs xv xc xa xp l) = false := by
  have hk : kidsI xo = -1 := by
    unfold isTwo at hT
    simp only [kidsI, oVALUE, oCOLUMN, ops1, oNEG, oNOT, oNULL, List.contains_cons, List.contains_nil, h1, h2, h3, h4, h5, hT, Bool.or_false, Bool.false_eq_true, if_false]
  show (decide (((l.length : Nat) : Int) = kidsI xo) && (if (xo.toList == oVALUE) = true then xv.toList == [] && xc.toList == [] && rightB xk xn xs && decide (0 ≤ xn) else if (xo.toList == oCOLUMN) = true then (xk == 0 && xn == 0 && xs.toList == []) && nameB xc && (xv.toList == [] || nameB xv) else (xk == 0 && xn == 0 && xs.toList == []) && xv.toList == [] && xc.toList == [] && l.all (rightX n))) = _
  rw [hk, decide_eq_false (by omega), Bool.false_and]
theorem all_false {l : List XL} {f : XL → Bool} {x : XL} (h : x ∈ l) (hf : f x = false) : l.all f = false := by
  rw [List.all_eq_false]; exact ⟨x, h, by simp [hf]⟩
theorem all_take_true {l : List XL} {f : XL → Bool} {j : Nat} {x : XL} (hx : l[j]? = some x) (h : (l.take j).all f = true) (hf : f x = true) : (l.take (j + 1)).all f = true := by
  obtain ⟨hjl, rfl⟩ := List.getElem?_eq_some_iff.1 hx
  rw [List.take_succ_eq_append_getElem hjl, List.all_append, h]
  simp [hf]
theorem not_six {m k : Nat} {xk xn : Int} {a b c : List UInt8} {r : Bool} (h : ¬ (m = k ∧ xk = 0 ∧ xn = 0 ∧ a = [] ∧ b = [] ∧ c = [])) : (decide (m = k) && (xk == 0 && xn == 0 && a == [] && b == [] && c == [] && r)) = false := by
  rw [Bool.eq_false_iff]
  intro e
  simp only [Bool.and_eq_true, decide_eq_true_eq, beq_iff_eq] at e
  exact h ⟨e.1, e.2.1.1.1.1.1, e.2.1.1.1.1.2, e.2.1.1.1.2, e.2.1.1.2, e.2.1.2⟩
theorem after2 {w w1 : World} {c0 c1 c2 c3 c4 c5 c6 z0 z1 z2 : Value} {t t2 : TypeId} (hb : Below ((w.alloc (.cells #[c0, c1, c2, c3, c4, c5, c6] t)).alloc (.cells #[z0, z1, z2] t2)).heap.size ((w.alloc (.cells #[c0, c1, c2, c3, c4, c5, c6] t)).alloc (.cells #[z0, z1, z2] t2)) w1) :
    w1.cell? ⟨w.heap.size, 0, none⟩ = some c0 ∧ w1.cell? ⟨w.heap.size, 1, none⟩ = some c1 ∧ w1.cell? ⟨w.heap.size, 2, none⟩ = some c2 ∧ w1.cell? ⟨w.heap.size, 3, none⟩ = some c3 ∧ w1.cell? ⟨w.heap.size, 4, none⟩ = some c4 ∧ w1.cell? ⟨w.heap.size, 5, none⟩ = some c5 ∧ w1.cell? ⟨w.heap.size, 6, none⟩ = some c6 ∧
    w1.cell? ⟨w.heap.size + 1, 0, none⟩ = some z0 ∧ w1.cell? ⟨w.heap.size + 1, 1, none⟩ = some z1 ∧ w1.cell? ⟨w.heap.size + 1, 2, none⟩ = some z2 ∧ Below w.heap.size w w1 := by
  have hA : ∀ o, w1.cell? ⟨w.heap.size, o, none⟩ = ((w.alloc (.cells #[c0, c1, c2, c3, c4, c5, c6] t)).alloc (.cells #[z0, z1, z2] t2)).cell? ⟨w.heap.size, o, none⟩ := fun o => hb.cell (by simp; omega)
  have hB : ∀ o, w1.cell? ⟨w.heap.size + 1, o, none⟩ = ((w.alloc (.cells #[c0, c1, c2, c3, c4, c5, c6] t)).alloc (.cells #[z0, z1, z2] t2)).cell? ⟨w.heap.size + 1, o, none⟩ := fun o => hb.cell (by simp)
  refine ⟨?_, ?_, ?_, ?_, ?_, ?_, ?_, ?_, ?_, ?_, dig_below_on ((Rw.below_alloc _ _).alloc (by simp) _) hb⟩
  all_goals first | (rw [hA]; simp [go_sem]; done) | (rw [hB]; simp [go_sem]; done)

end Go.Proofs.YtcgpcigablefhaaGreatDoor
