/-
  Lex, plain: how a text is cut into tokens, as lists of bytes. Of no program, but for what a name is (ScA).
-/
import Derived.Test.YtfokllgfejcehaaDoorScA
namespace Go.Proofs.YtfokllgfejcehaaDoor
open Go.RowKit

/-- A token. -/
structure Tk where
  kind : Int
  n : Int
  pl : Int
  s : ByteArray
  deriving DecidableEq

def mkB (l : List UInt8) : ByteArray := ⟨l.toArray⟩
theorem mkB_list (l : List UInt8) : (mkB l).data.toList = l := by simp [mkB]
theorem mkB_size (l : List UInt8) : (mkB l).size = l.length := by simp [mkB, ByteArray.size]
theorem mkB_of (s : ByteArray) : mkB s.data.toList = s := by cases s; simp [mkB]
theorem mkB_inj {l m : List UInt8} (h : mkB l = mkB m) : l = m := by rw [← mkB_list l, h, mkB_list]

theorem bsz (s : ByteArray) : s.data.toList.length = s.size := Array.length_toList

def capB (c : UInt8) : Bool := decide (65 ≤ c.toNat) && decide (c.toNat ≤ 90)
def lowB (c : UInt8) : Bool := decide (97 ≤ c.toNat) && decide (c.toNat ≤ 122)
def digB (c : UInt8) : Bool := decide (48 ≤ c.toNat) && decide (c.toNat ≤ 57)
def runB (c : UInt8) : Bool := capB c || lowB c || digB c || decide (c.toNat = 95)
def blkB (c : UInt8) : Bool := decide (c.toNat = 32) || decide (c.toNat = 9) || decide (c.toNat = 10)

theorem capB_iff {c : UInt8} : capB c = true ↔ 65 ≤ c.toNat ∧ c.toNat ≤ 90 := by simp [capB]
theorem lowB_iff {c : UInt8} : lowB c = true ↔ 97 ≤ c.toNat ∧ c.toNat ≤ 122 := by simp [lowB]
theorem digB_iff {c : UInt8} : digB c = true ↔ 48 ≤ c.toNat ∧ c.toNat ≤ 57 := by simp [digB]
theorem runB_iff {c : UInt8} : runB c = true ↔ (65 ≤ c.toNat ∧ c.toNat ≤ 90) ∨ (97 ≤ c.toNat ∧ c.toNat ≤ 122) ∨ (48 ≤ c.toNat ∧ c.toNat ≤ 57) ∨ c.toNat = 95 := by simp [runB, capB, lowB, digB, or_assoc]
theorem blkB_iff {c : UInt8} : blkB c = true ↔ c.toNat = 32 ∨ c.toNat = 9 ∨ c.toNat = 10 := by simp [blkB, or_assoc]

/-- With how many bytes of a kind a text begins. -/
def spanN (p : UInt8 → Bool) (l : List UInt8) : Nat := (l.takeWhile p).length

theorem spanN_nil (p : UInt8 → Bool) : spanN p [] = 0 := rfl
theorem spanN_le (p : UInt8 → Bool) (l : List UInt8) : spanN p l ≤ l.length := (List.takeWhile_sublist p).length_le
theorem spanN_cons_pos {p : UInt8 → Bool} {c : UInt8} {l : List UInt8} (h : p c = true) : spanN p (c :: l) = spanN p l + 1 := by simp [spanN, h]
theorem spanN_cons_neg {p : UInt8 → Bool} {c : UInt8} {l : List UInt8} (h : p c = false) : spanN p (c :: l) = 0 := by simp [spanN, h]

theorem spanN_of {p : UInt8 → Bool} : ∀ {l : List UInt8} {k : Nat}, k ≤ l.length → (l.take k).all p = true → (∀ c, l[k]? = some c → p c = false) → spanN p l = k
  | [], k, hk, _, _ => by simp at hk; simp [spanN, hk]
  | c :: l, 0, _, _, h => spanN_cons_neg (h c rfl)
  | c :: l, k + 1, hk, ha, h => by
    simp only [List.take_succ_cons, List.all_cons, Bool.and_eq_true] at ha
    rw [spanN_cons_pos ha.1, spanN_of (k := k) (by simpa using hk) ha.2 (fun d hd => h d (by simpa using hd))]

theorem take_span (p : UInt8 → Bool) : ∀ l : List UInt8, l.take (spanN p l) = l.takeWhile p
  | [] => rfl
  | c :: l => by
    cases h : p c
    · simp [spanN, h]
    · rw [spanN_cons_pos h, List.take_succ_cons, take_span p l]; simp [h]

theorem drop_span (p : UInt8 → Bool) : ∀ l : List UInt8, l.drop (spanN p l) = l.dropWhile p
  | [] => rfl
  | c :: l => by
    cases h : p c
    · simp [spanN, h]
    · rw [spanN_cons_pos h, List.drop_succ_cons, drop_span p l]; simp [h]

theorem all_takeWhile (p : UInt8 → Bool) : ∀ l : List UInt8, (l.takeWhile p).all p = true
  | [] => rfl
  | c :: l => by
    cases h : p c
    · simp [h]
    · simp only [List.takeWhile_cons, h, if_true, List.all_cons, Bool.true_and]
      exact all_takeWhile p l

theorem span_all {p : UInt8 → Bool} : ∀ {l : List UInt8}, spanN p l = l.length ↔ l.all p = true
  | [] => by simp [spanN]
  | c :: l => by
    cases h : p c
    · simp [spanN_cons_neg h, h]
    · rw [spanN_cons_pos h]
      simp only [List.length_cons, Nat.add_right_cancel_iff, List.all_cons, h, Bool.true_and]
      exact span_all

/-- What digits spell. -/
def numL (l : List UInt8) : Nat := l.foldl (fun n c => n * 10 + (c.toNat - 48)) 0
def numF (a : Nat) (l : List UInt8) : Nat := l.foldl (fun n c => n * 10 + (c.toNat - 48)) a
theorem numF_cons (a : Nat) (c : UInt8) (l : List UInt8) : numF a (c :: l) = numF (a * 10 + (c.toNat - 48)) l := List.foldl_cons ..
theorem numF_ge : ∀ (l : List UInt8) (a : Nat), a ≤ numF a l
  | [], a => Nat.le_refl _
  | c :: l, a => Nat.le_trans (by omega) (numF_ge l (a * 10 + (c.toNat - 48)))
theorem numF_append (a : Nat) (l m : List UInt8) : numF a (l ++ m) = numF (numF a l) m := by simp [numF]

def zTk : Tk := ⟨0, 0, 0, mkB []⟩

/-- The token that a run is; of size 0: none. -/
def runP (w : List UInt8) : Tk × Nat :=
  if w.all capB = true then (⟨1, 0, 0, mkB w⟩, w.length)
  else if nameB (mkB w) = true then (⟨2, 0, 0, mkB w⟩, w.length)
  else if w.all digB = true ∧ numL w < 9223372036854775808 then (⟨3, numL w, 0, mkB []⟩, w.length)
  else (zTk, 0)

/-- Behind a quote: the text, and how many bytes it takes with the quote that ends it. -/
def qScan : List UInt8 → Option (List UInt8 × Nat)
  | [] => none
  | c :: r =>
    if c = 39 then
      match r with
      | [] => some ([], 1)
      | d :: r' => if d = 39 then (qScan r').map fun x => (39 :: x.1, x.2 + 2) else some ([], 1)
    else (qScan r).map fun x => (c :: x.1, x.2 + 1)

def quoP (l : List UInt8) : Tk × Nat :=
  match qScan l.tail with
  | some x => if x.1.length ≤ 24 then (⟨4, 0, 0, mkB x.1⟩, x.2 + 1) else (zTk, 0)
  | none => (zTk, 0)

def symsL : List (List UInt8) := [[60, 62], [60, 61], [62, 61], [60], [62], [61], [43], [45], [42], [40], [41], [44], [46], [59]]

def symP (l : List UInt8) : Tk × Nat :=
  match symsL.find? (fun p => p.isPrefixOf l) with
  | some p => (⟨5, 0, 0, mkB p⟩, p.length)
  | none => (zTk, 0)

/-- The token with which a text begins, and its size; 0: there is none. -/
def firstP : List UInt8 → Tk × Nat
  | [] => (zTk, 0)
  | c :: r => if runB c = true then runP ((c :: r).takeWhile runB) else if c = 39 then quoP (c :: r) else symP (c :: r)

def setPl (t : Tk) (p : Int) : Tk := ⟨t.kind, t.n, p, t.s⟩

/-- From a place behind blanks: the tokens, or the place at which none stands. -/
def cutF : Nat → Nat → List UInt8 → List Tk × Option Nat
  | 0, _, _ => ([], none)
  | f + 1, p, r =>
    if r = [] then ([⟨0, 0, p, mkB []⟩], none)
    else if (firstP r).2 = 0 then ([], some p)
    else
      let r1 := r.drop (firstP r).2
      let x := cutF f (p + (firstP r).2 + spanN blkB r1) (r1.drop (spanN blkB r1))
      (setPl (firstP r).1 p :: x.1, x.2)

def cutT (l : List UInt8) : List Tk × Option Nat := cutF (l.length + 1) (spanN blkB l) (l.drop (spanN blkB l))

theorem cutF_end (f p : Nat) : cutF (f + 1) p [] = ([⟨0, 0, p, mkB []⟩], none) := rfl
theorem cutF_bad {f p : Nat} {r : List UInt8} (h : r ≠ []) (h0 : (firstP r).2 = 0) : cutF (f + 1) p r = ([], some p) := by
  rw [cutF, if_neg h, if_pos h0]
theorem cutF_step {f p : Nat} {r : List UInt8} (h : r ≠ []) (h0 : (firstP r).2 ≠ 0) : cutF (f + 1) p r = (setPl (firstP r).1 p :: (cutF f (p + (firstP r).2 + spanN blkB (r.drop (firstP r).2)) ((r.drop (firstP r).2).drop (spanN blkB (r.drop (firstP r).2)))).1, (cutF f (p + (firstP r).2 + spanN blkB (r.drop (firstP r).2)) ((r.drop (firstP r).2).drop (spanN blkB (r.drop (firstP r).2)))).2) := by
  rw [cutF, if_neg h, if_neg h0]

/-- What was read, and what is to come. -/
def glue (a : List Tk) (x : List Tk × Option Nat) : List Tk × Option Nat := (a ++ x.1, x.2)

theorem qScan_size : ∀ (l : List UInt8) (x : List UInt8 × Nat), qScan l = some x → 1 ≤ x.2 ∧ x.2 ≤ l.length ∧ x.1.length + 1 ≤ x.2
  | [], x, h => by simp [qScan] at h
  | [c], x, h => by
    rw [qScan] at h
    split at h
    · simp at h; subst h; simp
    · simp [qScan] at h
  | c :: d :: r, x, h => by
    rw [qScan] at h
    split at h
    · split at h
      · obtain ⟨y, hy, rfl⟩ := Option.map_eq_some_iff.1 h
        have := qScan_size r y hy
        simp; omega
      · simp at h; subst h; simp
    · obtain ⟨y, hy, rfl⟩ := Option.map_eq_some_iff.1 h
      have := qScan_size (d :: r) y hy
      simp at this ⊢; omega

theorem runP_size (w : List UInt8) : (runP w).2 ≤ w.length := by
  unfold runP
  split
  · exact Nat.le_refl _
  split
  · exact Nat.le_refl _
  split
  · exact Nat.le_refl _
  · exact Nat.zero_le _

theorem symP_size (l : List UInt8) : (symP l).2 ≤ l.length := by
  unfold symP
  split
  · rename_i p hp
    have := List.find?_some hp
    exact (List.isPrefixOf_iff_prefix.1 this).length_le
  · exact Nat.zero_le _

theorem firstP_size (r : List UInt8) : (firstP r).2 ≤ r.length := by
  cases r with
  | nil => simp [firstP]
  | cons c r =>
    rw [firstP]
    split
    · exact Nat.le_trans (runP_size _) (List.takeWhile_sublist _).length_le
    split
    · unfold quoP
      split
      · rename_i x hx
        split
        · have := qScan_size _ _ hx
          simp at this ⊢; omega
        · exact Nat.zero_le _
      · exact Nat.zero_le _
    · exact symP_size _
end Go.Proofs.YtfokllgfejcehaaDoor
