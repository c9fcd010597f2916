/-
  The document's arena: what it is, how it lies in memory, and how it stands to the program's.
-/
import Derived.Test.YtcoehlnmaehhjaaArH
namespace Go.Proofs.Ytcoehlnmaehhjaa
open Go.RowKit

/-- The document's arena: pages in use, free numbers, the next one, the quota. -/
structure RAbs where
  L : List (Nat × List UInt8)
  fr : List Nat
  nx : Nat
  q : Nat

def pstr (c : List UInt8) : ByteArray := ⟨c.toArray⟩

def lcs (l : List (Nat × List UInt8)) : List Value := l.flatMap fun x => [nv x.1, .string (pstr x.2)]

theorem lcs_length (l : List (Nat × List UInt8)) : (lcs l).length = l.length * 2 := by
  induction l with
  | nil => rfl
  | cons x l ih =>
    show (lcs l).length + 1 + 1 = _
    rw [ih, List.length_cons]; omega

theorem lcs_append (a b : List (Nat × List UInt8)) : lcs (a ++ b) = lcs a ++ lcs b := by simp [lcs]

theorem lcs_at (l : List (Nat × List UInt8)) : ∀ (j : Nat) (x : Nat × List UInt8), l[j]? = some x → (lcs l)[j * 2]? = some (nv x.1) ∧ (lcs l)[j * 2 + 1]? = some (.string (pstr x.2)) := by
  induction l with
  | nil => intro j x h; simp at h
  | cons u l ih =>
    intro j x h
    have e : lcs (u :: l) = nv u.1 :: .string (pstr u.2) :: lcs l := rfl
    cases j with
    | zero =>
      simp at h
      subst h
      rw [e]; exact ⟨rfl, rfl⟩
    | succ j =>
      have := ih j x (by simpa using h)
      rw [e, show (j + 1) * 2 = j * 2 + 2 by omega]
      exact this

theorem lcs_take (l : List (Nat × List UInt8)) (m : Nat) : (lcs l).take (m * 2) = lcs (l.take m) := by
  by_cases h : m ≤ l.length
  · have e : lcs l = lcs (l.take m) ++ lcs (l.drop m) := by rw [← lcs_append, List.take_append_drop]
    rw [e, List.take_append_of_le_length (by rw [lcs_length, List.length_take]; omega), List.take_of_length_le (by rw [lcs_length, List.length_take]; omega)]
  · rw [List.take_of_length_le (by rw [lcs_length]; omega), List.take_of_length_le (by omega)]

theorem lcs_drop (l : List (Nat × List UInt8)) (m : Nat) (h : m ≤ l.length) : (lcs l).drop (m * 2) = lcs (l.drop m) := by
  have e : lcs l = lcs (l.take m) ++ lcs (l.drop m) := by rw [← lcs_append, List.take_append_drop]
  rw [e, List.drop_append_of_le_length (by rw [lcs_length, List.length_take]; omega), List.drop_eq_nil_of_le (by rw [lcs_length, List.length_take]; omega), List.nil_append]

theorem lcs_set (l : List (Nat × List UInt8)) : ∀ (j : Nat) (n : Nat) (c d : List UInt8), l[j]? = some (n, c) → (lcs l).set (j * 2 + 1) (.string (pstr d)) = lcs (l.set j (n, d)) := by
  induction l with
  | nil => intro j n c d h; simp at h
  | cons u l ih =>
    intro j n c d h
    have e : lcs (u :: l) = nv u.1 :: .string (pstr u.2) :: lcs l := rfl
    cases j with
    | zero =>
      simp at h
      subst h
      rfl
    | succ j =>
      have := ih j n c d (by simpa using h)
      rw [e, show (j + 1) * 2 + 1 = (j * 2 + 1) + 1 + 1 by omega, List.set_cons_succ, List.set_cons_succ, this]
      rfl

theorem one_lcs (l : List (Nat × List UInt8)) : ∀ u ∈ lcs l, u.oneCell' = true := by
  intro u hu
  obtain ⟨x, _, hx⟩ := List.mem_flatMap.1 hu
  simp at hx
  rcases hx with rfl | rfl <;> rfl

/-- The document's arena in memory. -/
structure Rf where
  p : Nat
  vl : Value
  vf : Value
  L : List (Nat × List UInt8)
  fr : List Nat
  nx : Nat
  q : Nat

def Rf.abs (r : Rf) : RAbs := ⟨r.L, r.fr, r.nx, r.q⟩

structure RfP (r : Rf) (W : World) : Prop where
  blk : W.heap[r.p]? = some (.cells #[r.vl, r.vf, nv r.nx, nv r.q] 47 (0, 0))
  rl : W.ownsRow 0 43 2 r.vl r.L.length (lcs r.L)
  rf : W.ownsRow 0 3 1 r.vf r.fr.length (r.fr.map nv)

def Rf.own (r : Rf) (k : Nat) : Prop := k = r.p ∨ r.vl.ownBlock = some k ∨ r.vf.ownBlock = some k

theorem RfP.tag {s : Rf} {W : World} (h : RfP s W) {k : Nat} (hk : s.own k) : ∃ cur t, W.heap[k]? = some (.cells cur t (0, 0)) ∧ (t = 47 ∨ t = 43 ∨ t = 3) := by
  rcases hk with rfl | hk | hk
  · exact ⟨_, _, h.blk, Or.inl rfl⟩
  · obtain ⟨cur, h1⟩ := owns_tag h.rl hk
    exact ⟨_, _, h1, Or.inr (Or.inl rfl)⟩
  · obtain ⟨cur, h1⟩ := owns_tag h.rf hk
    exact ⟨_, _, h1, Or.inr (Or.inr rfl)⟩

def rfSt : St Rf where
  own := Rf.own
  P := RfP
  keep s w w' h hk hp := ⟨(hk _ (Or.inl rfl)).trans h.blk, owns_of_block h.rl fun k x => hk k (Or.inr (Or.inl x)), owns_of_block h.rf fun k x => hk k (Or.inr (Or.inr x))⟩
  lt s w k h hk := by
    obtain ⟨cur, t, h1, _⟩ := h.tag hk
    exact (Array.getElem?_eq_some_iff.1 h1).1
  tag s w k cs h hk e := by
    obtain ⟨cur, t, h1, h2⟩ := h.tag hk
    rw [e] at h1
    simp only [Option.some.injEq, Obj.cells.injEq] at h1
    rcases h2 with h2 | h2 | h2 <;> (rw [h2] at h1; simp at h1)

theorem RfP.cell {r : Rf} {W : World} (h : RfP r W) : W.cell? ⟨r.p, 0, none⟩ = some r.vl ∧ W.cell? ⟨r.p, 1, none⟩ = some r.vf ∧ W.cell? ⟨r.p, 2, none⟩ = some (nv r.nx) ∧ W.cell? ⟨r.p, 3, none⟩ = some (nv r.q) ∧ r.p < W.heap.size ∧ (∀ j, W.frozen? ⟨r.p, j, none⟩ = false) := by
  refine ⟨?_, ?_, ?_, ?_, (Array.getElem?_eq_some_iff.1 h.blk).1, fun j => frozen_of_row _ _ _ _ _ h.blk⟩ <;> rw [cell_of_row _ _ _ _ _ _ h.blk] <;> rfl

theorem RfP.ne {r : Rf} {w : World} (h : RfP r w) : (∀ k, r.vl.ownBlock = some k → k ≠ r.p ∧ r.vf.ownBlock ≠ some k) ∧ ∀ k, r.vf.ownBlock = some k → k ≠ r.p ∧ r.vl.ownBlock ≠ some k := by
  refine ⟨fun k hk => ⟨fun e => ?_, fun e => ?_⟩, fun k hk => ⟨fun e => ?_, fun e => ?_⟩⟩
  · obtain ⟨cur, h1⟩ := owns_tag h.rl hk
    rw [e, h.blk] at h1
    simp at h1
  · obtain ⟨cur, h1⟩ := owns_tag h.rl hk
    obtain ⟨cur', h2⟩ := owns_tag h.rf e
    rw [h2] at h1
    simp at h1
  · obtain ⟨cur, h1⟩ := owns_tag h.rf hk
    rw [e, h.blk] at h1
    simp at h1
  · obtain ⟨cur, h1⟩ := owns_tag h.rf hk
    obtain ⟨cur', h2⟩ := owns_tag h.rl e
    rw [h2] at h1
    simp at h1

/-- What a call makes of the document's arena. -/
def RGoes (r : Rf) (w : World) (ra : RAbs) (w' : World) : Prop := ∃ r', RfP r' w' ∧ r'.p = r.p ∧ r'.abs = ra ∧ Moves rfSt r r' w w'

/-- How the two stand to one another. -/
structure Rel (a : Abs) (r : RAbs) : Prop where
  q : r.q = a.q
  nx : r.nx = a.pg.length + 1
  fr : r.fr = a.fr
  len : r.L.length = a.used
  mem : ∀ n c, (n, c) ∈ r.L ↔ 1 ≤ n ∧ a.pg[n - 1]? = some (some c)
  nodup : (r.L.map Prod.fst).Nodup

theorem Rel.at_some {a : Abs} {r : RAbs} (h : Rel a r) {n : Int} {c : List UInt8} (hn : a.at n = some c) : ∃ (m j : Nat), n = (m : Int) ∧ r.L[j]? = some (m, c) := by
  obtain ⟨h1, h2, h3⟩ := Abs.at_some hn
  have := (h.mem n.toNat c).2 ⟨by omega, h3⟩
  obtain ⟨j, hj⟩ := List.getElem?_of_mem this
  exact ⟨n.toNat, j, by omega, hj⟩

theorem Rel.at_none {a : Abs} {r : RAbs} (h : Rel a r) {n : Int} (hn : a.at n = none) : ∀ x ∈ r.L, (x.1 : Int) ≠ n := by
  rintro ⟨m, c⟩ hx e
  obtain ⟨h1, h2⟩ := (h.mem m c).1 hx
  have e' : n = (m : Int) := e.symm
  rw [e', Abs.at_nat _ _ h1, h2] at hn
  cases hn

theorem Rel.at_nat {a : Abs} {r : RAbs} (h : Rel a r) {j m : Nat} {c : List UInt8} (hj : r.L[j]? = some (m, c)) : a.at (m : Int) = some c := by
  obtain ⟨h1, h2⟩ := (h.mem m c).1 (List.mem_of_getElem? hj)
  rw [Abs.at_nat _ _ h1, h2]; rfl

/-- A number stands once. -/
theorem nodup_at {l : List (Nat × List UInt8)} (h : (l.map Prod.fst).Nodup) {i j : Nat} {x y : Nat × List UInt8} (hi : l[i]? = some x) (hj : l[j]? = some y) (e : x.1 = y.1) : i = j := by
  have h1 : (l.map Prod.fst)[i]? = some x.1 := by rw [List.getElem?_map, hi]; rfl
  have h2 : (l.map Prod.fst)[j]? = some y.1 := by rw [List.getElem?_map, hj]; rfl
  have hlt : i < (l.map Prod.fst).length := (List.getElem?_eq_some_iff.1 h1).1
  exact (List.getElem?_inj hlt h).1 (by rw [h1, h2, e])
end Go.Proofs.Ytcoehlnmaehhjaa
