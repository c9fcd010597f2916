/-
  Ast: expressions as trees with the place of their Kids; how they lie in memory; what is plain of them.
-/
import Derived.Test.YtcgpcigablefhaaGreatDoorRwA
import Derived.Test.YtcgpcigablefhaaGreatDoorScB
import Derived.Test.YtcgpcigablefhaaGreatDoorShowW
namespace Go.Proofs.YtcgpcigablefhaaGreatDoor
open Go.RowKit

/-- An expression; a and c: where its Kids lie, and how many would fit there. -/
inductive XL where
  | mk (op : ByteArray) (vk vn : Int) (vs var col : ByteArray) (a : Option Addr) (c : Nat) (kids : List XL)
namespace XL
def op : XL → ByteArray | mk o _ _ _ _ _ _ _ _ => o
def vk : XL → Int | mk _ k _ _ _ _ _ _ _ => k
def vn : XL → Int | mk _ _ n _ _ _ _ _ _ => n
def vs : XL → ByteArray | mk _ _ _ s _ _ _ _ _ => s
def var : XL → ByteArray | mk _ _ _ _ v _ _ _ _ => v
def col : XL → ByteArray | mk _ _ _ _ _ c _ _ _ => c
def a : XL → Option Addr | mk _ _ _ _ _ _ a _ _ => a
def c : XL → Nat | mk _ _ _ _ _ _ _ c _ => c
def kids : XL → List XL | mk _ _ _ _ _ _ _ _ l => l
end XL
def zXL : XL := .mk ⟨#[]⟩ 0 0 ⟨#[]⟩ ⟨#[]⟩ ⟨#[]⟩ none 0 []

/-- Its cells; its value. -/
def xC (x : XL) : List Value := [.string x.op, .int .i64 x.vk, .int .i64 x.vn, .string x.vs, .string x.var, .string x.col, .slice x.a x.kids.length x.c]
theorem xC_len (x : XL) : (xC x).length = 7 := rfl
theorem xC_one (x : XL) : ∀ u ∈ xC x, u.oneCell' = true := by
  intro u hu
  simp only [xC, List.mem_cons, List.not_mem_nil, or_false] at hu
  rcases hu with rfl | rfl | rfl | rfl | rfl | rfl | rfl <;> rfl
def xV (x : XL) : Value := .agg #[.string x.op, .int .i64 x.vk, .int .i64 x.vn, .string x.vs, .string x.var, .string x.col, .slice x.a x.kids.length x.c]

/-- No part of it is greater than a machine's words and memory let it be. -/
structure XOk (x : XL) : Prop where
  k : fits x.vk = true
  n : fits x.vn = true
  op : x.op.size ≤ maxLen
  vs : x.vs.size ≤ maxLen
  var : x.var.size ≤ maxLen
  col : x.col.size ≤ maxLen
  kids : x.kids.length ≤ 1353245080300

/-- The top n levels of an expression lie in memory. -/
def In : Nat → World → XL → Prop
  | 0, _, _ => True
  | n + 1, w, x => XOk x ∧ Rw.SlG xC 7 w x.a x.kids ∧ ∀ k ∈ x.kids, In n w k

theorem In.on : ∀ {n : Nat} {w W : World} {x : XL}, In n w x → Below w.heap.size w W → In n W x
  | 0, _, _, _, _, _ => trivial
  | _ + 1, _, _, _, h, hb => ⟨h.1, h.2.1.below hb, fun k hk => (h.2.2 k hk).on hb⟩
theorem In.le : ∀ {n m : Nat} {w : World} {x : XL}, In n w x → m ≤ n → In m w x
  | _, 0, _, _, _, _ => trivial
  | 0, m + 1, _, _, _, h => absurd h (by omega)
  | n + 1, m + 1, _, _, h, hm => ⟨h.1, h.2.1, fun k hk => (h.2.2 k hk).le (by omega)⟩

/-- Is it more than so deep? -/
def deepB : Nat → XL → Bool
  | 0, _ => true
  | n + 1, x => x.kids.any (deepB n)

theorem In.deep : ∀ {n : Nat} {w : World} {x : XL}, In n w x → deepB n x = false → ∀ m, In m w x
  | 0, _, _, _, h => by cases h
  | n + 1, w, x, hi, h => fun m => by
    cases m with
    | zero => trivial
    | succ m =>
      simp only [deepB, List.any_eq_false] at h
      exact ⟨hi.1, hi.2.1, fun k hk => In.deep (hi.2.2 k hk) (by simpa using h k hk) m⟩

/-- Two expressions are alike, wherever they lie. -/
def Like : Nat → XL → XL → Prop
  | 0, _, _ => True
  | n + 1, x, y => x.op = y.op ∧ x.vk = y.vk ∧ x.vn = y.vn ∧ x.vs = y.vs ∧ x.var = y.var ∧ x.col = y.col ∧ x.kids.length = y.kids.length ∧ ∀ (j : Nat) k k', x.kids[j]? = some k → y.kids[j]? = some k' → Like n k k'

def opIs (s : ByteArray) (l : List UInt8) : Bool := s.toList == l
def oVALUE : List UInt8 := [118, 97, 108, 117, 101]
def oCOLUMN : List UInt8 := [99, 111, 108, 117, 109, 110]
def oNEG : List UInt8 := [110, 101, 103]
def oNOT : List UInt8 := [110, 111, 116]
def oNULL : List UInt8 := [110, 117, 108, 108]
def ops1 : List (List UInt8) := [oNEG, oNOT, oNULL]
def ops2 : List (List UInt8) := [[43], [45], [42], [61], [60, 62], [60], [60, 61], [62], [62, 61], [97, 110, 100], [111, 114]]

/-- How many Kids an Op has; -1 if it is none. -/
def kidsI (s : ByteArray) : Int :=
  if s.toList == oVALUE || s.toList == oCOLUMN then 0 else if ops1.contains s.toList then 1 else if ops2.contains s.toList then 2 else -1

def noVal (x : XL) : Bool := x.vk == 0 && x.vn == 0 && x.vs.toList == []

/-- Is it right, with at most so many within one another? -/
def rightX : Nat → XL → Bool
  | 0, _ => false
  | n + 1, x => decide ((x.kids.length : Int) = kidsI x.op) &&
    (if x.op.toList == oVALUE then x.var.toList == [] && x.col.toList == [] && rightB x.vk x.vn x.vs && decide (0 ≤ x.vn)
     else if x.op.toList == oCOLUMN then noVal x && nameB x.col && (x.var.toList == [] || nameB x.var)
     else noVal x && x.var.toList == [] && x.col.toList == [] && x.kids.all (rightX n))

theorem any_at {f : XL → Bool} {g : XL → Bool} : ∀ {l m : List XL}, l.length = m.length → (∀ (j : Nat) k k', l[j]? = some k → m[j]? = some k' → f k = g k') → l.all f = m.all g
  | [], [], _, _ => rfl
  | x :: l, y :: m, hl, h => by
    rw [List.all_cons, List.all_cons, h 0 x y rfl rfl, any_at (by simpa using hl) fun j k k' h1 h2 => h (j + 1) k k' (by simpa using h1) (by simpa using h2)]
  | [], _ :: _, hl, _ => by simp at hl
  | _ :: _, [], hl, _ => by simp at hl

theorem Like.right : ∀ {n : Nat} {x y : XL}, Like n x y → rightX n x = rightX n y
  | 0, _, _, _ => rfl
  | n + 1, x, y, h => by
    obtain ⟨h1, h2, h3, h4, h5, h6, h7, h8⟩ := h
    simp only [rightX, noVal, h1, h2, h3, h4, h5, h6, h7]
    rw [any_at h7 fun j k k' a b => Like.right (h8 j k k' a b)]
theorem Like.le : ∀ {n m : Nat} {x y : XL}, Like n x y → m ≤ n → Like m x y
  | _, 0, _, _, _, _ => trivial
  | 0, m + 1, _, _, _, h => absurd h (by omega)
  | n + 1, m + 1, _, _, ⟨h1, h2, h3, h4, h5, h6, h7, h8⟩, hm => ⟨h1, h2, h3, h4, h5, h6, h7, fun j k k' a b => (h8 j k k' a b).le (by omega)⟩

theorem right_le : ∀ {n m : Nat} {x : XL}, rightX n x = true → n ≤ m → rightX m x = true
  | 0, _, _, h, _ => by cases h
  | n + 1, 0, _, _, h => absurd h (by omega)
  | n + 1, m + 1, x, h, hm => by
    simp only [rightX, Bool.and_eq_true] at h ⊢
    refine ⟨h.1, ?_⟩
    have h2 := h.2
    split at h2
    · rename_i e; rw [if_pos e]; exact h2
    · rename_i e
      rw [if_neg e]
      split at h2
      · rename_i e'; rw [if_pos e']; exact h2
      · rename_i e'
        rw [if_neg e']
        simp only [Bool.and_eq_true, List.all_eq_true] at h2 ⊢
        exact ⟨h2.1, fun k hk => right_le (h2.2 k hk) (by omega)⟩

/-- An Op as it is shown. -/
def opT (s : List UInt8) : List UInt8 := if s == [97, 110, 100] then [65, 78, 68] else if s == [111, 114] then [79, 82] else s

/-- A column's text; a text out of the parts' texts. -/
def colT (v c : List UInt8) : List UInt8 := if v == [] then c else v ++ 46 :: c
def showN (o v c a b : List UInt8) : List UInt8 :=
  if o == oVALUE then v
  else if o == oCOLUMN then c
  else if o == oNEG then [40, 45, 32] ++ a ++ [41]
  else if o == oNOT then [40, 78, 79, 84, 32] ++ a ++ [41]
  else if o == oNULL then [40] ++ a ++ [32, 73, 83, 32, 78, 85, 76, 76, 41]
  else [40] ++ a ++ ([32] ++ opT o ++ [32]) ++ b ++ [41]

/-- Its text. -/
def showX : Nat → XL → List UInt8
  | 0, _ => []
  | n + 1, x => showN x.op.toList (showL x.vk x.vn x.vs) (colT x.var.toList x.col.toList) (showX n (x.kids.headD zXL)) (showX n (x.kids.tail.headD zXL))

section
variable {n : Nat} {xo : ByteArray} {xk xn : Int} {xs xv xc : ByteArray} {xa : Option Addr} {xp : Nat} {l : List XL} {k k' : XL}
theorem show_value (h : xo.toList = oVALUE) : showX (n + 1) (.mk xo xk xn xs xv xc xa xp l) = showL xk xn xs := by
  show showN xo.toList _ _ _ _ = _
  rw [h]; rfl
theorem show_column (h : xo.toList = oCOLUMN) : showX (n + 1) (.mk xo xk xn xs xv xc xa xp l) = colT xv.toList xc.toList := by
  show showN xo.toList _ _ _ _ = _
  rw [h]; rfl
theorem show_neg (h : xo.toList = oNEG) : showX (n + 1) (.mk xo xk xn xs xv xc xa xp (k :: l)) = [40, 45, 32] ++ showX n k ++ [41] := by
  show showN xo.toList _ _ _ _ = _
  rw [h]; rfl
theorem show_not (h : xo.toList = oNOT) : showX (n + 1) (.mk xo xk xn xs xv xc xa xp (k :: l)) = [40, 78, 79, 84, 32] ++ showX n k ++ [41] := by
  show showN xo.toList _ _ _ _ = _
  rw [h]; rfl
theorem show_null (h : xo.toList = oNULL) : showX (n + 1) (.mk xo xk xn xs xv xc xa xp (k :: l)) = [40] ++ showX n k ++ [32, 73, 83, 32, 78, 85, 76, 76, 41] := by
  show showN xo.toList _ _ _ _ = _
  rw [h]; rfl
theorem show_two (h1 : (xo.toList == oVALUE) = false) (h2 : (xo.toList == oCOLUMN) = false) (h3 : (xo.toList == oNEG) = false) (h4 : (xo.toList == oNOT) = false) (h5 : (xo.toList == oNULL) = false) :
    showX (n + 1) (.mk xo xk xn xs xv xc xa xp (k :: k' :: l)) = [40] ++ showX n k ++ ([32] ++ opT xo.toList ++ [32]) ++ showX n k' ++ [41] := by
  show showN xo.toList _ _ (showX n k) (showX n k') = _
  unfold showN
  rw [h1, h2, h3, h4, h5]
  rfl
end

theorem kids_of_right {n : Nat} {x : XL} (h : rightX (n + 1) x = true) : (x.kids.length : Int) = kidsI x.op := by
  simp only [rightX, Bool.and_eq_true, decide_eq_true_eq] at h
  exact h.1

theorem opT_len (s : List UInt8) : (opT s).length ≤ s.length := by
  unfold opT
  split
  · rename_i e; rw [beq_iff_eq] at e; subst e; simp
  split
  · rename_i e; rw [beq_iff_eq] at e; subst e; simp
  · exact Nat.le_refl _
end Go.Proofs.YtcgpcigablefhaaGreatDoor
