/-
  A struct with two lists is copied into a new variable: was := T{Leaf: n.Leaf, Recs: append([]string{}, n.Recs...), Kids: append([]int{}, n.Kids...)}: in whatever order.
-/
import Derived.Test.YtgpahhlmpdnbpaaRwA
import Derived.Test.YtgpahhlmpdnbpaaInvR
import Derived.Test.YtgpahhlmpdnbpaaTwoC
namespace Go.Proofs.Ytgpahhlmpdnbpaa.Rw
open Go Go.RowKit

def zN : Array Value := #[.bool false, .slice none 0 0, .slice none 0 0]

theorem set3 {W : World} {p T : Nat} {cur : Array Value} {x y z : Value} (h : W.heap[p]? = some (.cells cur T (0, 0))) (hs : cur.size = 3) : (W.setCells p 0 [x, y, z]).heap[p]? = some (.cells #[x, y, z] T (0, 0)) := by
  have h1 := heap_setCell_same _ _ 0 _ _ x h
  have h2 := heap_setCell_same _ _ 1 _ _ y h1
  have h3 := heap_setCell_same _ _ 2 _ _ z h2
  refine Eq.trans h3 ?_
  obtain ⟨l⟩ := cur
  match l, hs with
  | [a, b, c], _ => rfl

structure OnI (U : World) (a0 : Act) (s x X : Nat) (b0 rv kv : Value) (n m : Nat) (yr yk : List Value) (d : Nat → Bool) (a : Act) (W : World) : Prop where
  fr : a.defers = a0.defers ∧ a.tmps.size = a0.tmps.size ∧ ∀ t, t ≠ x → (t < s ∨ s + 11 ≤ t) → a.tmps[t]? = a0.tmps[t]?
  below : Below U.heap.size U W
  rA : ∃ vA nA xA, W.ownsRow U.heap.size 9 1 vA nA xA ∧ (d 2 = true → d 5 = false → a.eval (.tmp (s + 2)) = vA ∧ nA = 0 ∧ xA = []) ∧ (d 5 = true → a.eval (.tmp (s + 5)) = vA ∧ nA = n ∧ xA = yr)
  rB : ∃ vB nB xB, W.ownsRow U.heap.size 3 1 vB nB xB ∧ (d 6 = true → d 9 = false → a.eval (.tmp (s + 6)) = vB ∧ nB = 0 ∧ xB = []) ∧ (d 9 = true → a.eval (.tmp (s + 9)) = vB ∧ nB = m ∧ xB = yk)
  e0 : d 0 = true → a.eval (.tmp s) = .pointer (some ⟨X, 0, none⟩)
  e1 : d 1 = true → a.eval (.tmp (s + 1)) = b0
  e3 : d 3 = true → a.eval (.tmp (s + 3)) = .pointer (some ⟨X, 1, none⟩)
  e4 : d 4 = true → a.eval (.tmp (s + 4)) = rv
  e7 : d 7 = true → a.eval (.tmp (s + 7)) = .pointer (some ⟨X, 2, none⟩)
  e8 : d 8 = true → a.eval (.tmp (s + 8)) = kv
  e10 : d 10 = true → a.eval (.tmp (s + 10)) = .agg #[b0, a.eval (.tmp (s + 5)), a.eval (.tmp (s + 9))]
  v : d 11 = true → ∃ p cur, a.eval (.tmp x) = .pointer (some ⟨p, 0, none⟩) ∧ U.heap.size ≤ p ∧ W.heap[p]? = some (.cells cur 27 (0, 0)) ∧ cur.size = 3 ∧ (d 12 = true → cur = #[b0, a.eval (.tmp (s + 5)), a.eval (.tmp (s + 9))])
  c5 : d 5 = true → d 2 = true
  c9 : d 9 = true → d 6 = true
  c10 : d 10 = true → d 5 = true ∧ d 9 = true
  c12 : d 12 = true → d 10 = true ∧ d 11 = true

theorem on0 {U : World} {a0 : Act} {s x X : Nat} {b0 rv kv : Value} {n m : Nat} {yr yk : List Value} {d : Nat → Bool} {a : Act} {W : World} (h : OnI U a0 s x X b0 rv kv n m yr yk d a W) (hs : s + 11 ≤ a0.tmps.size) (hx : x < s) (_hd : d 0 = false) {v : Value} (hv : v = .pointer (some ⟨X, 0, none⟩)) : OnI U a0 s x X b0 rv kv n m yr yk (fun j => j == 0 || d j) (a.put (some (s)) v) W := by
  have hz : a.tmps.size = a0.tmps.size := h.fr.2.1
  obtain ⟨vA1, nA1, xA1, A1, A2, A3⟩ := h.rA
  obtain ⟨vB1, nB1, xB1, B1, B2, B3⟩ := h.rB
  exact ⟨⟨h.fr.1, (by rw [put_size]; exact h.fr.2.1), fun u hu hu2 => (by show (a.tmps.setIfInBounds _ _)[u]? = _; rw [Array.getElem?_setIfInBounds_ne (by omega)]; exact h.fr.2.2 u hu hu2)⟩, h.below, ⟨vA1, nA1, xA1, A1, fun q r => (by rw [put_ne _ _ _ _ (by omega)]; exact A2 (by simpa using q) (by simpa using r)), fun q => (by rw [put_ne _ _ _ _ (by omega)]; exact A3 (by simpa using q))⟩, ⟨vB1, nB1, xB1, B1, fun q r => (by rw [put_ne _ _ _ _ (by omega)]; exact B2 (by simpa using q) (by simpa using r)), fun q => (by rw [put_ne _ _ _ _ (by omega)]; exact B3 (by simpa using q))⟩, fun _ => (put_get _ _ _ (by omega)).trans hv, fun q => (by rw [put_ne _ _ _ _ (by omega)]; exact h.e1 (by simpa using q)), fun q => (by rw [put_ne _ _ _ _ (by omega)]; exact h.e3 (by simpa using q)), fun q => (by rw [put_ne _ _ _ _ (by omega)]; exact h.e4 (by simpa using q)), fun q => (by rw [put_ne _ _ _ _ (by omega)]; exact h.e7 (by simpa using q)), fun q => (by rw [put_ne _ _ _ _ (by omega)]; exact h.e8 (by simpa using q)), fun q => (by rw [put_ne _ _ _ _ (by omega), put_ne _ _ _ _ (by omega), put_ne _ _ _ _ (by omega)]; exact h.e10 (by simpa using q)), fun q => (by obtain ⟨p, cur, k0, kU, k1, k2, k3⟩ := h.v (by simpa using q); exact ⟨p, cur, (by rw [put_ne _ _ _ _ (by omega)]; exact k0), kU, k1, k2, fun q => (by rw [put_ne _ _ _ _ (by omega), put_ne _ _ _ _ (by omega)]; exact k3 (by simpa using q))⟩), fun q => (by have g := h.c5 (by simpa using q); simp [g]), fun q => (by have g := h.c9 (by simpa using q); simp [g]), fun q => (by have g := h.c10 (by simpa using q); simp [g.1, g.2]), fun q => (by have g := h.c12 (by simpa using q); simp [g.1, g.2])⟩

theorem on1 {U : World} {a0 : Act} {s x X : Nat} {b0 rv kv : Value} {n m : Nat} {yr yk : List Value} {d : Nat → Bool} {a : Act} {W : World} (h : OnI U a0 s x X b0 rv kv n m yr yk d a W) (hs : s + 11 ≤ a0.tmps.size) (hx : x < s) (_hd : d 1 = false) {v : Value} (hv : v = b0) : OnI U a0 s x X b0 rv kv n m yr yk (fun j => j == 1 || d j) (a.put (some (s + 1)) v) W := by
  have hz : a.tmps.size = a0.tmps.size := h.fr.2.1
  obtain ⟨vA1, nA1, xA1, A1, A2, A3⟩ := h.rA
  obtain ⟨vB1, nB1, xB1, B1, B2, B3⟩ := h.rB
  exact ⟨⟨h.fr.1, (by rw [put_size]; exact h.fr.2.1), fun u hu hu2 => (by show (a.tmps.setIfInBounds _ _)[u]? = _; rw [Array.getElem?_setIfInBounds_ne (by omega)]; exact h.fr.2.2 u hu hu2)⟩, h.below, ⟨vA1, nA1, xA1, A1, fun q r => (by rw [put_ne _ _ _ _ (by omega)]; exact A2 (by simpa using q) (by simpa using r)), fun q => (by rw [put_ne _ _ _ _ (by omega)]; exact A3 (by simpa using q))⟩, ⟨vB1, nB1, xB1, B1, fun q r => (by rw [put_ne _ _ _ _ (by omega)]; exact B2 (by simpa using q) (by simpa using r)), fun q => (by rw [put_ne _ _ _ _ (by omega)]; exact B3 (by simpa using q))⟩, fun q => (by rw [put_ne _ _ _ _ (by omega)]; exact h.e0 (by simpa using q)), fun _ => (put_get _ _ _ (by omega)).trans hv, fun q => (by rw [put_ne _ _ _ _ (by omega)]; exact h.e3 (by simpa using q)), fun q => (by rw [put_ne _ _ _ _ (by omega)]; exact h.e4 (by simpa using q)), fun q => (by rw [put_ne _ _ _ _ (by omega)]; exact h.e7 (by simpa using q)), fun q => (by rw [put_ne _ _ _ _ (by omega)]; exact h.e8 (by simpa using q)), fun q => (by rw [put_ne _ _ _ _ (by omega), put_ne _ _ _ _ (by omega), put_ne _ _ _ _ (by omega)]; exact h.e10 (by simpa using q)), fun q => (by obtain ⟨p, cur, k0, kU, k1, k2, k3⟩ := h.v (by simpa using q); exact ⟨p, cur, (by rw [put_ne _ _ _ _ (by omega)]; exact k0), kU, k1, k2, fun q => (by rw [put_ne _ _ _ _ (by omega), put_ne _ _ _ _ (by omega)]; exact k3 (by simpa using q))⟩), fun q => (by have g := h.c5 (by simpa using q); simp [g]), fun q => (by have g := h.c9 (by simpa using q); simp [g]), fun q => (by have g := h.c10 (by simpa using q); simp [g.1, g.2]), fun q => (by have g := h.c12 (by simpa using q); simp [g.1, g.2])⟩

theorem on2 {U : World} {a0 : Act} {s x X : Nat} {b0 rv kv : Value} {n m : Nat} {yr yk : List Value} {d : Nat → Bool} {a : Act} {W : World} (h : OnI U a0 s x X b0 rv kv n m yr yk d a W) (hs : s + 11 ≤ a0.tmps.size) (hx : x < s) (hd : d 2 = false) {v : Value} (hv : v = .slice (some ⟨W.heap.size, 0, none⟩) 0 0) : OnI U a0 s x X b0 rv kv n m yr yk (fun j => j == 2 || d j) (a.put (some (s + 2)) v) (W.alloc (.cells #[] 9)) := by
  have hz : a.tmps.size = a0.tmps.size := h.fr.2.1
  obtain ⟨vA1, nA1, xA1, A1, A2, A3⟩ := h.rA
  obtain ⟨vB1, nB1, xB1, B1, B2, B3⟩ := h.rB
  have hU : U.heap.size ≤ W.heap.size := h.below.size
  subst hv
  exact ⟨⟨h.fr.1, (by rw [put_size]; exact h.fr.2.1), fun u hu hu2 => (by show (a.tmps.setIfInBounds _ _)[u]? = _; rw [Array.getElem?_setIfInBounds_ne (by omega)]; exact h.fr.2.2 u hu hu2)⟩, h.below.alloc hU _, ⟨(.slice (some ⟨W.heap.size, 0, none⟩) 0 0), 0, [], own_new (heap_new _ _) hU, fun _ _ => ⟨put_get _ _ _ (by omega), rfl, rfl⟩, fun q => (by have g := h.c5 (by simpa using q); rw [hd] at g; cases g)⟩, ⟨vB1, nB1, xB1, owns_on B1 (below_alloc _ _), fun q r => (by rw [put_ne _ _ _ _ (by omega)]; exact B2 (by simpa using q) (by simpa using r)), fun q => (by rw [put_ne _ _ _ _ (by omega)]; exact B3 (by simpa using q))⟩, fun q => (by rw [put_ne _ _ _ _ (by omega)]; exact h.e0 (by simpa using q)), fun q => (by rw [put_ne _ _ _ _ (by omega)]; exact h.e1 (by simpa using q)), fun q => (by rw [put_ne _ _ _ _ (by omega)]; exact h.e3 (by simpa using q)), fun q => (by rw [put_ne _ _ _ _ (by omega)]; exact h.e4 (by simpa using q)), fun q => (by rw [put_ne _ _ _ _ (by omega)]; exact h.e7 (by simpa using q)), fun q => (by rw [put_ne _ _ _ _ (by omega)]; exact h.e8 (by simpa using q)), fun q => (by rw [put_ne _ _ _ _ (by omega), put_ne _ _ _ _ (by omega), put_ne _ _ _ _ (by omega)]; exact h.e10 (by simpa using q)), fun q => (by obtain ⟨p, cur, k0, kU, k1, k2, k3⟩ := h.v (by simpa using q); exact ⟨p, cur, (by rw [put_ne _ _ _ _ (by omega)]; exact k0), kU, ((below_alloc W _).block _ (Array.getElem?_eq_some_iff.1 k1).1).trans k1, k2, fun q => (by rw [put_ne _ _ _ _ (by omega), put_ne _ _ _ _ (by omega)]; exact k3 (by simpa using q))⟩), fun q => (by have g := h.c5 (by simpa using q); simp [g]), fun q => (by have g := h.c9 (by simpa using q); simp [g]), fun q => (by have g := h.c10 (by simpa using q); simp [g.1, g.2]), fun q => (by have g := h.c12 (by simpa using q); simp [g.1, g.2])⟩

theorem on3 {U : World} {a0 : Act} {s x X : Nat} {b0 rv kv : Value} {n m : Nat} {yr yk : List Value} {d : Nat → Bool} {a : Act} {W : World} (h : OnI U a0 s x X b0 rv kv n m yr yk d a W) (hs : s + 11 ≤ a0.tmps.size) (hx : x < s) (_hd : d 3 = false) {v : Value} (hv : v = .pointer (some ⟨X, 1, none⟩)) : OnI U a0 s x X b0 rv kv n m yr yk (fun j => j == 3 || d j) (a.put (some (s + 3)) v) W := by
  have hz : a.tmps.size = a0.tmps.size := h.fr.2.1
  obtain ⟨vA1, nA1, xA1, A1, A2, A3⟩ := h.rA
  obtain ⟨vB1, nB1, xB1, B1, B2, B3⟩ := h.rB
  exact ⟨⟨h.fr.1, (by rw [put_size]; exact h.fr.2.1), fun u hu hu2 => (by show (a.tmps.setIfInBounds _ _)[u]? = _; rw [Array.getElem?_setIfInBounds_ne (by omega)]; exact h.fr.2.2 u hu hu2)⟩, h.below, ⟨vA1, nA1, xA1, A1, fun q r => (by rw [put_ne _ _ _ _ (by omega)]; exact A2 (by simpa using q) (by simpa using r)), fun q => (by rw [put_ne _ _ _ _ (by omega)]; exact A3 (by simpa using q))⟩, ⟨vB1, nB1, xB1, B1, fun q r => (by rw [put_ne _ _ _ _ (by omega)]; exact B2 (by simpa using q) (by simpa using r)), fun q => (by rw [put_ne _ _ _ _ (by omega)]; exact B3 (by simpa using q))⟩, fun q => (by rw [put_ne _ _ _ _ (by omega)]; exact h.e0 (by simpa using q)), fun q => (by rw [put_ne _ _ _ _ (by omega)]; exact h.e1 (by simpa using q)), fun _ => (put_get _ _ _ (by omega)).trans hv, fun q => (by rw [put_ne _ _ _ _ (by omega)]; exact h.e4 (by simpa using q)), fun q => (by rw [put_ne _ _ _ _ (by omega)]; exact h.e7 (by simpa using q)), fun q => (by rw [put_ne _ _ _ _ (by omega)]; exact h.e8 (by simpa using q)), fun q => (by rw [put_ne _ _ _ _ (by omega), put_ne _ _ _ _ (by omega), put_ne _ _ _ _ (by omega)]; exact h.e10 (by simpa using q)), fun q => (by obtain ⟨p, cur, k0, kU, k1, k2, k3⟩ := h.v (by simpa using q); exact ⟨p, cur, (by rw [put_ne _ _ _ _ (by omega)]; exact k0), kU, k1, k2, fun q => (by rw [put_ne _ _ _ _ (by omega), put_ne _ _ _ _ (by omega)]; exact k3 (by simpa using q))⟩), fun q => (by have g := h.c5 (by simpa using q); simp [g]), fun q => (by have g := h.c9 (by simpa using q); simp [g]), fun q => (by have g := h.c10 (by simpa using q); simp [g.1, g.2]), fun q => (by have g := h.c12 (by simpa using q); simp [g.1, g.2])⟩

theorem on4 {U : World} {a0 : Act} {s x X : Nat} {b0 rv kv : Value} {n m : Nat} {yr yk : List Value} {d : Nat → Bool} {a : Act} {W : World} (h : OnI U a0 s x X b0 rv kv n m yr yk d a W) (hs : s + 11 ≤ a0.tmps.size) (hx : x < s) (_hd : d 4 = false) {v : Value} (hv : v = rv) : OnI U a0 s x X b0 rv kv n m yr yk (fun j => j == 4 || d j) (a.put (some (s + 4)) v) W := by
  have hz : a.tmps.size = a0.tmps.size := h.fr.2.1
  obtain ⟨vA1, nA1, xA1, A1, A2, A3⟩ := h.rA
  obtain ⟨vB1, nB1, xB1, B1, B2, B3⟩ := h.rB
  exact ⟨⟨h.fr.1, (by rw [put_size]; exact h.fr.2.1), fun u hu hu2 => (by show (a.tmps.setIfInBounds _ _)[u]? = _; rw [Array.getElem?_setIfInBounds_ne (by omega)]; exact h.fr.2.2 u hu hu2)⟩, h.below, ⟨vA1, nA1, xA1, A1, fun q r => (by rw [put_ne _ _ _ _ (by omega)]; exact A2 (by simpa using q) (by simpa using r)), fun q => (by rw [put_ne _ _ _ _ (by omega)]; exact A3 (by simpa using q))⟩, ⟨vB1, nB1, xB1, B1, fun q r => (by rw [put_ne _ _ _ _ (by omega)]; exact B2 (by simpa using q) (by simpa using r)), fun q => (by rw [put_ne _ _ _ _ (by omega)]; exact B3 (by simpa using q))⟩, fun q => (by rw [put_ne _ _ _ _ (by omega)]; exact h.e0 (by simpa using q)), fun q => (by rw [put_ne _ _ _ _ (by omega)]; exact h.e1 (by simpa using q)), fun q => (by rw [put_ne _ _ _ _ (by omega)]; exact h.e3 (by simpa using q)), fun _ => (put_get _ _ _ (by omega)).trans hv, fun q => (by rw [put_ne _ _ _ _ (by omega)]; exact h.e7 (by simpa using q)), fun q => (by rw [put_ne _ _ _ _ (by omega)]; exact h.e8 (by simpa using q)), fun q => (by rw [put_ne _ _ _ _ (by omega), put_ne _ _ _ _ (by omega), put_ne _ _ _ _ (by omega)]; exact h.e10 (by simpa using q)), fun q => (by obtain ⟨p, cur, k0, kU, k1, k2, k3⟩ := h.v (by simpa using q); exact ⟨p, cur, (by rw [put_ne _ _ _ _ (by omega)]; exact k0), kU, k1, k2, fun q => (by rw [put_ne _ _ _ _ (by omega), put_ne _ _ _ _ (by omega)]; exact k3 (by simpa using q))⟩), fun q => (by have g := h.c5 (by simpa using q); simp [g]), fun q => (by have g := h.c9 (by simpa using q); simp [g]), fun q => (by have g := h.c10 (by simpa using q); simp [g.1, g.2]), fun q => (by have g := h.c12 (by simpa using q); simp [g.1, g.2])⟩

theorem on5 {U : World} {a0 : Act} {s x X : Nat} {b0 rv kv : Value} {n m : Nat} {yr yk : List Value} {d : Nat → Bool} {a : Act} {W : World} (h : OnI U a0 s x X b0 rv kv n m yr yk d a W) (hs : s + 11 ≤ a0.tmps.size) (hx : x < s) (hd : d 5 = false) {v : Value} {W' : World} {vA : Value} {nA : Nat} {xA : List Value} (A : W.ownsRow U.heap.size 9 1 vA nA xA) (O : W'.ownsRow U.heap.size 9 1 v n yr) (G : W.grownBy W' vA.ownBlock) (p1 : d 2 = true) : OnI U a0 s x X b0 rv kv n m yr yk (fun j => j == 5 || d j) (a.put (some (s + 5)) v) W' := by
  have hz : a.tmps.size = a0.tmps.size := h.fr.2.1
  obtain ⟨vA1, nA1, xA1, A1, A2, A3⟩ := h.rA
  obtain ⟨vB1, nB1, xB1, B1, B2, B3⟩ := h.rB
  have hne : ∀ {g e : Nat} {cur : Array Value}, W.heap[g]? = some (Obj.cells cur e (0, 0)) → e ≠ 9 → W'.heap[g]? = W.heap[g]? := fun hg he => G.block _ (Array.getElem?_eq_some_iff.1 hg).1 fun e => owns_far A hg (Ne.symm he) e.symm
  exact ⟨⟨h.fr.1, (by rw [put_size]; exact h.fr.2.1), fun u hu hu2 => (by show (a.tmps.setIfInBounds _ _)[u]? = _; rw [Array.getElem?_setIfInBounds_ne (by omega)]; exact h.fr.2.2 u hu hu2)⟩, h.below.grown G h.below.size fun p hp => (A.lt p hp).1, ⟨v, n, yr, O, fun _ r => (by simp at r), fun _ => ⟨put_get _ _ _ (by omega), rfl, rfl⟩⟩, ⟨vB1, nB1, xB1, (owns_below B1 fun p hp => (by obtain ⟨cur, hc⟩ := owns_block B1 hp; exact hne hc (by decide))), fun q r => (by rw [put_ne _ _ _ _ (by omega)]; exact B2 (by simpa using q) (by simpa using r)), fun q => (by rw [put_ne _ _ _ _ (by omega)]; exact B3 (by simpa using q))⟩, fun q => (by rw [put_ne _ _ _ _ (by omega)]; exact h.e0 (by simpa using q)), fun q => (by rw [put_ne _ _ _ _ (by omega)]; exact h.e1 (by simpa using q)), fun q => (by rw [put_ne _ _ _ _ (by omega)]; exact h.e3 (by simpa using q)), fun q => (by rw [put_ne _ _ _ _ (by omega)]; exact h.e4 (by simpa using q)), fun q => (by rw [put_ne _ _ _ _ (by omega)]; exact h.e7 (by simpa using q)), fun q => (by rw [put_ne _ _ _ _ (by omega)]; exact h.e8 (by simpa using q)), fun q => (by have g := (h.c10 (by simpa using q)).1; rw [hd] at g; cases g), fun q => (by obtain ⟨p, cur, k0, kU, k1, k2, k3⟩ := h.v (by simpa using q); exact ⟨p, cur, (by rw [put_ne _ _ _ _ (by omega)]; exact k0), kU, (hne k1 (by decide)).trans k1, k2, fun q => (by have g := (h.c10 (h.c12 (by simpa using q)).1).1; rw [hd] at g; cases g)⟩), fun _ => (by simp [p1]), fun q => (by have g := h.c9 (by simpa using q); simp [g]), fun q => (by have g := h.c10 (by simpa using q); simp [g.1, g.2]), fun q => (by have g := h.c12 (by simpa using q); simp [g.1, g.2])⟩

theorem on6 {U : World} {a0 : Act} {s x X : Nat} {b0 rv kv : Value} {n m : Nat} {yr yk : List Value} {d : Nat → Bool} {a : Act} {W : World} (h : OnI U a0 s x X b0 rv kv n m yr yk d a W) (hs : s + 11 ≤ a0.tmps.size) (hx : x < s) (hd : d 6 = false) {v : Value} (hv : v = .slice (some ⟨W.heap.size, 0, none⟩) 0 0) : OnI U a0 s x X b0 rv kv n m yr yk (fun j => j == 6 || d j) (a.put (some (s + 6)) v) (W.alloc (.cells #[] 3)) := by
  have hz : a.tmps.size = a0.tmps.size := h.fr.2.1
  obtain ⟨vA1, nA1, xA1, A1, A2, A3⟩ := h.rA
  obtain ⟨vB1, nB1, xB1, B1, B2, B3⟩ := h.rB
  have hU : U.heap.size ≤ W.heap.size := h.below.size
  subst hv
  exact ⟨⟨h.fr.1, (by rw [put_size]; exact h.fr.2.1), fun u hu hu2 => (by show (a.tmps.setIfInBounds _ _)[u]? = _; rw [Array.getElem?_setIfInBounds_ne (by omega)]; exact h.fr.2.2 u hu hu2)⟩, h.below.alloc hU _, ⟨vA1, nA1, xA1, owns_on A1 (below_alloc _ _), fun q r => (by rw [put_ne _ _ _ _ (by omega)]; exact A2 (by simpa using q) (by simpa using r)), fun q => (by rw [put_ne _ _ _ _ (by omega)]; exact A3 (by simpa using q))⟩, ⟨(.slice (some ⟨W.heap.size, 0, none⟩) 0 0), 0, [], own_new (heap_new _ _) hU, fun _ _ => ⟨put_get _ _ _ (by omega), rfl, rfl⟩, fun q => (by have g := h.c9 (by simpa using q); rw [hd] at g; cases g)⟩, fun q => (by rw [put_ne _ _ _ _ (by omega)]; exact h.e0 (by simpa using q)), fun q => (by rw [put_ne _ _ _ _ (by omega)]; exact h.e1 (by simpa using q)), fun q => (by rw [put_ne _ _ _ _ (by omega)]; exact h.e3 (by simpa using q)), fun q => (by rw [put_ne _ _ _ _ (by omega)]; exact h.e4 (by simpa using q)), fun q => (by rw [put_ne _ _ _ _ (by omega)]; exact h.e7 (by simpa using q)), fun q => (by rw [put_ne _ _ _ _ (by omega)]; exact h.e8 (by simpa using q)), fun q => (by rw [put_ne _ _ _ _ (by omega), put_ne _ _ _ _ (by omega), put_ne _ _ _ _ (by omega)]; exact h.e10 (by simpa using q)), fun q => (by obtain ⟨p, cur, k0, kU, k1, k2, k3⟩ := h.v (by simpa using q); exact ⟨p, cur, (by rw [put_ne _ _ _ _ (by omega)]; exact k0), kU, ((below_alloc W _).block _ (Array.getElem?_eq_some_iff.1 k1).1).trans k1, k2, fun q => (by rw [put_ne _ _ _ _ (by omega), put_ne _ _ _ _ (by omega)]; exact k3 (by simpa using q))⟩), fun q => (by have g := h.c5 (by simpa using q); simp [g]), fun q => (by have g := h.c9 (by simpa using q); simp [g]), fun q => (by have g := h.c10 (by simpa using q); simp [g.1, g.2]), fun q => (by have g := h.c12 (by simpa using q); simp [g.1, g.2])⟩

theorem on7 {U : World} {a0 : Act} {s x X : Nat} {b0 rv kv : Value} {n m : Nat} {yr yk : List Value} {d : Nat → Bool} {a : Act} {W : World} (h : OnI U a0 s x X b0 rv kv n m yr yk d a W) (hs : s + 11 ≤ a0.tmps.size) (hx : x < s) (_hd : d 7 = false) {v : Value} (hv : v = .pointer (some ⟨X, 2, none⟩)) : OnI U a0 s x X b0 rv kv n m yr yk (fun j => j == 7 || d j) (a.put (some (s + 7)) v) W := by
  have hz : a.tmps.size = a0.tmps.size := h.fr.2.1
  obtain ⟨vA1, nA1, xA1, A1, A2, A3⟩ := h.rA
  obtain ⟨vB1, nB1, xB1, B1, B2, B3⟩ := h.rB
  exact ⟨⟨h.fr.1, (by rw [put_size]; exact h.fr.2.1), fun u hu hu2 => (by show (a.tmps.setIfInBounds _ _)[u]? = _; rw [Array.getElem?_setIfInBounds_ne (by omega)]; exact h.fr.2.2 u hu hu2)⟩, h.below, ⟨vA1, nA1, xA1, A1, fun q r => (by rw [put_ne _ _ _ _ (by omega)]; exact A2 (by simpa using q) (by simpa using r)), fun q => (by rw [put_ne _ _ _ _ (by omega)]; exact A3 (by simpa using q))⟩, ⟨vB1, nB1, xB1, B1, fun q r => (by rw [put_ne _ _ _ _ (by omega)]; exact B2 (by simpa using q) (by simpa using r)), fun q => (by rw [put_ne _ _ _ _ (by omega)]; exact B3 (by simpa using q))⟩, fun q => (by rw [put_ne _ _ _ _ (by omega)]; exact h.e0 (by simpa using q)), fun q => (by rw [put_ne _ _ _ _ (by omega)]; exact h.e1 (by simpa using q)), fun q => (by rw [put_ne _ _ _ _ (by omega)]; exact h.e3 (by simpa using q)), fun q => (by rw [put_ne _ _ _ _ (by omega)]; exact h.e4 (by simpa using q)), fun _ => (put_get _ _ _ (by omega)).trans hv, fun q => (by rw [put_ne _ _ _ _ (by omega)]; exact h.e8 (by simpa using q)), fun q => (by rw [put_ne _ _ _ _ (by omega), put_ne _ _ _ _ (by omega), put_ne _ _ _ _ (by omega)]; exact h.e10 (by simpa using q)), fun q => (by obtain ⟨p, cur, k0, kU, k1, k2, k3⟩ := h.v (by simpa using q); exact ⟨p, cur, (by rw [put_ne _ _ _ _ (by omega)]; exact k0), kU, k1, k2, fun q => (by rw [put_ne _ _ _ _ (by omega), put_ne _ _ _ _ (by omega)]; exact k3 (by simpa using q))⟩), fun q => (by have g := h.c5 (by simpa using q); simp [g]), fun q => (by have g := h.c9 (by simpa using q); simp [g]), fun q => (by have g := h.c10 (by simpa using q); simp [g.1, g.2]), fun q => (by have g := h.c12 (by simpa using q); simp [g.1, g.2])⟩

theorem on8 {U : World} {a0 : Act} {s x X : Nat} {b0 rv kv : Value} {n m : Nat} {yr yk : List Value} {d : Nat → Bool} {a : Act} {W : World} (h : OnI U a0 s x X b0 rv kv n m yr yk d a W) (hs : s + 11 ≤ a0.tmps.size) (hx : x < s) (_hd : d 8 = false) {v : Value} (hv : v = kv) : OnI U a0 s x X b0 rv kv n m yr yk (fun j => j == 8 || d j) (a.put (some (s + 8)) v) W := by
  have hz : a.tmps.size = a0.tmps.size := h.fr.2.1
  obtain ⟨vA1, nA1, xA1, A1, A2, A3⟩ := h.rA
  obtain ⟨vB1, nB1, xB1, B1, B2, B3⟩ := h.rB
  exact ⟨⟨h.fr.1, (by rw [put_size]; exact h.fr.2.1), fun u hu hu2 => (by show (a.tmps.setIfInBounds _ _)[u]? = _; rw [Array.getElem?_setIfInBounds_ne (by omega)]; exact h.fr.2.2 u hu hu2)⟩, h.below, ⟨vA1, nA1, xA1, A1, fun q r => (by rw [put_ne _ _ _ _ (by omega)]; exact A2 (by simpa using q) (by simpa using r)), fun q => (by rw [put_ne _ _ _ _ (by omega)]; exact A3 (by simpa using q))⟩, ⟨vB1, nB1, xB1, B1, fun q r => (by rw [put_ne _ _ _ _ (by omega)]; exact B2 (by simpa using q) (by simpa using r)), fun q => (by rw [put_ne _ _ _ _ (by omega)]; exact B3 (by simpa using q))⟩, fun q => (by rw [put_ne _ _ _ _ (by omega)]; exact h.e0 (by simpa using q)), fun q => (by rw [put_ne _ _ _ _ (by omega)]; exact h.e1 (by simpa using q)), fun q => (by rw [put_ne _ _ _ _ (by omega)]; exact h.e3 (by simpa using q)), fun q => (by rw [put_ne _ _ _ _ (by omega)]; exact h.e4 (by simpa using q)), fun q => (by rw [put_ne _ _ _ _ (by omega)]; exact h.e7 (by simpa using q)), fun _ => (put_get _ _ _ (by omega)).trans hv, fun q => (by rw [put_ne _ _ _ _ (by omega), put_ne _ _ _ _ (by omega), put_ne _ _ _ _ (by omega)]; exact h.e10 (by simpa using q)), fun q => (by obtain ⟨p, cur, k0, kU, k1, k2, k3⟩ := h.v (by simpa using q); exact ⟨p, cur, (by rw [put_ne _ _ _ _ (by omega)]; exact k0), kU, k1, k2, fun q => (by rw [put_ne _ _ _ _ (by omega), put_ne _ _ _ _ (by omega)]; exact k3 (by simpa using q))⟩), fun q => (by have g := h.c5 (by simpa using q); simp [g]), fun q => (by have g := h.c9 (by simpa using q); simp [g]), fun q => (by have g := h.c10 (by simpa using q); simp [g.1, g.2]), fun q => (by have g := h.c12 (by simpa using q); simp [g.1, g.2])⟩

theorem on9 {U : World} {a0 : Act} {s x X : Nat} {b0 rv kv : Value} {n m : Nat} {yr yk : List Value} {d : Nat → Bool} {a : Act} {W : World} (h : OnI U a0 s x X b0 rv kv n m yr yk d a W) (hs : s + 11 ≤ a0.tmps.size) (hx : x < s) (hd : d 9 = false) {v : Value} {W' : World} {vB : Value} {nB : Nat} {xB : List Value} (B : W.ownsRow U.heap.size 3 1 vB nB xB) (O : W'.ownsRow U.heap.size 3 1 v m yk) (G : W.grownBy W' vB.ownBlock) (p1 : d 6 = true) : OnI U a0 s x X b0 rv kv n m yr yk (fun j => j == 9 || d j) (a.put (some (s + 9)) v) W' := by
  have hz : a.tmps.size = a0.tmps.size := h.fr.2.1
  obtain ⟨vA1, nA1, xA1, A1, A2, A3⟩ := h.rA
  obtain ⟨vB1, nB1, xB1, B1, B2, B3⟩ := h.rB
  have hne : ∀ {g e : Nat} {cur : Array Value}, W.heap[g]? = some (Obj.cells cur e (0, 0)) → e ≠ 3 → W'.heap[g]? = W.heap[g]? := fun hg he => G.block _ (Array.getElem?_eq_some_iff.1 hg).1 fun e => owns_far B hg (Ne.symm he) e.symm
  exact ⟨⟨h.fr.1, (by rw [put_size]; exact h.fr.2.1), fun u hu hu2 => (by show (a.tmps.setIfInBounds _ _)[u]? = _; rw [Array.getElem?_setIfInBounds_ne (by omega)]; exact h.fr.2.2 u hu hu2)⟩, h.below.grown G h.below.size fun p hp => (B.lt p hp).1, ⟨vA1, nA1, xA1, (owns_below A1 fun p hp => (by obtain ⟨cur, hc⟩ := owns_block A1 hp; exact hne hc (by decide))), fun q r => (by rw [put_ne _ _ _ _ (by omega)]; exact A2 (by simpa using q) (by simpa using r)), fun q => (by rw [put_ne _ _ _ _ (by omega)]; exact A3 (by simpa using q))⟩, ⟨v, m, yk, O, fun _ r => (by simp at r), fun _ => ⟨put_get _ _ _ (by omega), rfl, rfl⟩⟩, fun q => (by rw [put_ne _ _ _ _ (by omega)]; exact h.e0 (by simpa using q)), fun q => (by rw [put_ne _ _ _ _ (by omega)]; exact h.e1 (by simpa using q)), fun q => (by rw [put_ne _ _ _ _ (by omega)]; exact h.e3 (by simpa using q)), fun q => (by rw [put_ne _ _ _ _ (by omega)]; exact h.e4 (by simpa using q)), fun q => (by rw [put_ne _ _ _ _ (by omega)]; exact h.e7 (by simpa using q)), fun q => (by rw [put_ne _ _ _ _ (by omega)]; exact h.e8 (by simpa using q)), fun q => (by have g := (h.c10 (by simpa using q)).2; rw [hd] at g; cases g), fun q => (by obtain ⟨p, cur, k0, kU, k1, k2, k3⟩ := h.v (by simpa using q); exact ⟨p, cur, (by rw [put_ne _ _ _ _ (by omega)]; exact k0), kU, (hne k1 (by decide)).trans k1, k2, fun q => (by have g := (h.c10 (h.c12 (by simpa using q)).1).2; rw [hd] at g; cases g)⟩), fun q => (by have g := h.c5 (by simpa using q); simp [g]), fun _ => (by simp [p1]), fun q => (by have g := h.c10 (by simpa using q); simp [g.1, g.2]), fun q => (by have g := h.c12 (by simpa using q); simp [g.1, g.2])⟩

theorem on10 {U : World} {a0 : Act} {s x X : Nat} {b0 rv kv : Value} {n m : Nat} {yr yk : List Value} {d : Nat → Bool} {a : Act} {W : World} (h : OnI U a0 s x X b0 rv kv n m yr yk d a W) (hs : s + 11 ≤ a0.tmps.size) (hx : x < s) (_hd : d 10 = false) {v : Value} (hv : v = .agg #[b0, a.eval (.tmp (s + 5)), a.eval (.tmp (s + 9))]) (p1 : d 5 = true) (p2 : d 9 = true) : OnI U a0 s x X b0 rv kv n m yr yk (fun j => j == 10 || d j) (a.put (some (s + 10)) v) W := by
  have hz : a.tmps.size = a0.tmps.size := h.fr.2.1
  obtain ⟨vA1, nA1, xA1, A1, A2, A3⟩ := h.rA
  obtain ⟨vB1, nB1, xB1, B1, B2, B3⟩ := h.rB
  exact ⟨⟨h.fr.1, (by rw [put_size]; exact h.fr.2.1), fun u hu hu2 => (by show (a.tmps.setIfInBounds _ _)[u]? = _; rw [Array.getElem?_setIfInBounds_ne (by omega)]; exact h.fr.2.2 u hu hu2)⟩, h.below, ⟨vA1, nA1, xA1, A1, fun q r => (by rw [put_ne _ _ _ _ (by omega)]; exact A2 (by simpa using q) (by simpa using r)), fun q => (by rw [put_ne _ _ _ _ (by omega)]; exact A3 (by simpa using q))⟩, ⟨vB1, nB1, xB1, B1, fun q r => (by rw [put_ne _ _ _ _ (by omega)]; exact B2 (by simpa using q) (by simpa using r)), fun q => (by rw [put_ne _ _ _ _ (by omega)]; exact B3 (by simpa using q))⟩, fun q => (by rw [put_ne _ _ _ _ (by omega)]; exact h.e0 (by simpa using q)), fun q => (by rw [put_ne _ _ _ _ (by omega)]; exact h.e1 (by simpa using q)), fun q => (by rw [put_ne _ _ _ _ (by omega)]; exact h.e3 (by simpa using q)), fun q => (by rw [put_ne _ _ _ _ (by omega)]; exact h.e4 (by simpa using q)), fun q => (by rw [put_ne _ _ _ _ (by omega)]; exact h.e7 (by simpa using q)), fun q => (by rw [put_ne _ _ _ _ (by omega)]; exact h.e8 (by simpa using q)), fun _ => (by rw [put_get _ _ _ (by omega), put_ne _ _ _ _ (by omega), put_ne _ _ _ _ (by omega)]; exact hv), fun q => (by obtain ⟨p, cur, k0, kU, k1, k2, k3⟩ := h.v (by simpa using q); exact ⟨p, cur, (by rw [put_ne _ _ _ _ (by omega)]; exact k0), kU, k1, k2, fun q => (by rw [put_ne _ _ _ _ (by omega), put_ne _ _ _ _ (by omega)]; exact k3 (by simpa using q))⟩), fun q => (by have g := h.c5 (by simpa using q); simp [g]), fun q => (by have g := h.c9 (by simpa using q); simp [g]), fun _ => (by simp [p1, p2]), fun q => (by have g := h.c12 (by simpa using q); simp [g.1, g.2])⟩

theorem on11 {U : World} {a0 : Act} {s x X : Nat} {b0 rv kv : Value} {n m : Nat} {yr yk : List Value} {d : Nat → Bool} {a : Act} {W : World} (h : OnI U a0 s x X b0 rv kv n m yr yk d a W) (hs : s + 11 ≤ a0.tmps.size) (hx : x < s) (hd : d 11 = false) {v : Value} (hv : v = .pointer (some ⟨W.heap.size, 0, none⟩)) : OnI U a0 s x X b0 rv kv n m yr yk (fun j => j == 11 || d j) (a.put (some (x)) v) (W.alloc (.cells zN 27)) := by
  have hz : a.tmps.size = a0.tmps.size := h.fr.2.1
  obtain ⟨vA1, nA1, xA1, A1, A2, A3⟩ := h.rA
  obtain ⟨vB1, nB1, xB1, B1, B2, B3⟩ := h.rB
  have hU : U.heap.size ≤ W.heap.size := h.below.size
  subst hv
  exact ⟨⟨h.fr.1, (by rw [put_size]; exact h.fr.2.1), fun u hu hu2 => (by show (a.tmps.setIfInBounds _ _)[u]? = _; rw [Array.getElem?_setIfInBounds_ne (by omega)]; exact h.fr.2.2 u hu hu2)⟩, h.below.alloc hU _, ⟨vA1, nA1, xA1, owns_on A1 (below_alloc _ _), fun q r => (by rw [put_ne _ _ _ _ (by omega)]; exact A2 (by simpa using q) (by simpa using r)), fun q => (by rw [put_ne _ _ _ _ (by omega)]; exact A3 (by simpa using q))⟩, ⟨vB1, nB1, xB1, owns_on B1 (below_alloc _ _), fun q r => (by rw [put_ne _ _ _ _ (by omega)]; exact B2 (by simpa using q) (by simpa using r)), fun q => (by rw [put_ne _ _ _ _ (by omega)]; exact B3 (by simpa using q))⟩, fun q => (by rw [put_ne _ _ _ _ (by omega)]; exact h.e0 (by simpa using q)), fun q => (by rw [put_ne _ _ _ _ (by omega)]; exact h.e1 (by simpa using q)), fun q => (by rw [put_ne _ _ _ _ (by omega)]; exact h.e3 (by simpa using q)), fun q => (by rw [put_ne _ _ _ _ (by omega)]; exact h.e4 (by simpa using q)), fun q => (by rw [put_ne _ _ _ _ (by omega)]; exact h.e7 (by simpa using q)), fun q => (by rw [put_ne _ _ _ _ (by omega)]; exact h.e8 (by simpa using q)), fun q => (by rw [put_ne _ _ _ _ (by omega), put_ne _ _ _ _ (by omega), put_ne _ _ _ _ (by omega)]; exact h.e10 (by simpa using q)), fun _ => ⟨W.heap.size, zN, put_get _ _ _ (by omega), hU, heap_new _ _, rfl, fun q => (by have g := (h.c12 (by simpa using q)).2; rw [hd] at g; cases g)⟩, fun q => (by have g := h.c5 (by simpa using q); simp [g]), fun q => (by have g := h.c9 (by simpa using q); simp [g]), fun q => (by have g := h.c10 (by simpa using q); simp [g.1, g.2]), fun q => (by have g := h.c12 (by simpa using q); simp [g.1, g.2])⟩

theorem on12 {U : World} {a0 : Act} {s x X : Nat} {b0 rv kv : Value} {n m : Nat} {yr yk : List Value} {d : Nat → Bool} {a : Act} {W : World} (h : OnI U a0 s x X b0 rv kv n m yr yk d a W) (_hs : s + 11 ≤ a0.tmps.size) (_hx : x < s) (_hd : d 12 = false) {p : Nat} {vA vB : Value} (hA : a.eval (.tmp (s + 5)) = vA) (hB : a.eval (.tmp (s + 9)) = vB) (hp : a.eval (.tmp x) = .pointer (some ⟨p, 0, none⟩)) (p1 : d 10 = true) (p2 : d 11 = true) : OnI U a0 s x X b0 rv kv n m yr yk (fun j => j == 12 || d j) a (W.setCells p 0 [b0, vA, vB]) := by
  obtain ⟨vA1, nA1, xA1, A1, A2, A3⟩ := h.rA
  obtain ⟨vB1, nB1, xB1, B1, B2, B3⟩ := h.rB
  obtain ⟨p0, cur, hp0, hU, k1, k2, k3⟩ := h.v p2
  rw [hp] at hp0
  cases hp0
  have hne : ∀ {g e : Nat} {cu : Array Value}, W.heap[g]? = some (Obj.cells cu e (0, 0)) → e ≠ 27 → (W.setCells p 0 [b0, vA, vB]).heap[g]? = W.heap[g]? := fun hg he => heap_sets_ne (by rintro rfl; rw [k1] at hg; injection Option.some.inj hg with _ e2 _; exact he e2.symm) _ _ _
  exact ⟨h.fr, below_sets hU _ _ _ h.below, ⟨vA1, nA1, xA1, (owns_below A1 fun p hp => (by obtain ⟨cur, hc⟩ := owns_block A1 hp; exact hne hc (by decide))), fun q r => (by exact A2 (by simpa using q) (by simpa using r)), fun q => (by exact A3 (by simpa using q))⟩, ⟨vB1, nB1, xB1, (owns_below B1 fun p hp => (by obtain ⟨cur, hc⟩ := owns_block B1 hp; exact hne hc (by decide))), fun q r => (by exact B2 (by simpa using q) (by simpa using r)), fun q => (by exact B3 (by simpa using q))⟩, fun q => (by exact h.e0 (by simpa using q)), fun q => (by exact h.e1 (by simpa using q)), fun q => (by exact h.e3 (by simpa using q)), fun q => (by exact h.e4 (by simpa using q)), fun q => (by exact h.e7 (by simpa using q)), fun q => (by exact h.e8 (by simpa using q)), fun q => (by exact h.e10 (by simpa using q)), fun _ => ⟨p, #[b0, vA, vB], hp, hU, set3 k1 k2, rfl, fun _ => (by rw [hA, hB])⟩, fun q => (by have g := h.c5 (by simpa using q); simp [g]), fun q => (by have g := h.c9 (by simpa using q); simp [g]), fun q => (by have g := h.c10 (by simpa using q); simp [g.1, g.2]), fun _ => (by simp [p1, p2])⟩


theorem put_all {a : Act} : ∀ (ss : List Nat) (a0 : Act), a.defers = a0.defers → a.tmps.size = a0.tmps.size → (∀ t, t ∉ ss → a.tmps[t]? = a0.tmps[t]?) → (ss.map fun t => (t, a.tmps.getD t undef)).foldl (fun b p => b.put (some p.1) p.2) a0 = a
  | [], a0, h1, h2, h3 => by
    obtain ⟨tm, df⟩ := a
    obtain ⟨tm0, df0⟩ := a0
    simp only at h1 h2 h3
    subst h1
    simp only [List.map_nil, List.foldl_nil, Act.mk.injEq, and_true]
    exact Array.ext_getElem? fun t => (h3 t (by simp)).symm
  | q :: ss, a0, h1, h2, h3 => by
    rw [List.map_cons, List.foldl_cons]
    refine put_all ss _ h1 (by rw [put_size]; exact h2) fun t ht => ?_
    show _ = (a0.tmps.setIfInBounds q _)[t]?
    by_cases e : q = t
    · subst e
      rw [Array.getElem?_setIfInBounds]
      by_cases hq : q < a0.tmps.size
      · rw [if_pos rfl, if_pos hq, Array.getElem?_eq_getElem (by omega)]
        simp [h2, hq]
      · rw [if_pos rfl, if_neg hq, Array.getElem?_eq_none (by omega)]
    · rw [Array.getElem?_setIfInBounds_ne e]
      exact h3 t (by simp; exact ⟨fun h => e h.symm, ht⟩)

theorem on_start {U : World} {a0 : Act} {s x X : Nat} {b0 rv kv : Value} {n m : Nat} {yr yk : List Value} : OnI U a0 s x X b0 rv kv n m yr yk (fun _ => false) a0 U.drew :=
  ⟨⟨rfl, rfl, fun _ _ _ => rfl⟩, (Below.refl _ _).drew, ⟨.slice none 0 0, 0, [], World.ownsRow_nil _ _ _ _, fun h => (by cases h), fun h => (by cases h)⟩, ⟨.slice none 0 0, 0, [], World.ownsRow_nil _ _ _ _, fun h => (by cases h), fun h => (by cases h)⟩, fun h => (by cases h), fun h => (by cases h), fun h => (by cases h), fun h => (by cases h), fun h => (by cases h), fun h => (by cases h), fun h => (by cases h), fun h => (by cases h), fun h => (by cases h), fun h => (by cases h), fun h => (by cases h), fun h => (by cases h)⟩

theorem infoS : (Try.prog.info? 9).map (fun i => (i.zero, i.size, i.bytes)) = some (some (.string ⟨#[]⟩), 1, 16) := by kernel_rfl
theorem infoI : (Try.prog.info? 3).map (fun i => (i.zero, i.size, i.bytes)) = some (some (.int .i64 0), 1, 8) := by kernel_rfl

section
variable {Q : Exit → Act → World → Prop} {K : Act → World → Prop}

theorem op_loadV {o : Oper} {a : Act} {w : World} {s X fo T : Nat} {v : Value} (hT : T = 22 ∨ T = 23 ∨ T = 4) (ho : o.op = .load T (.tmp s)) (hs : a.eval (.tmp s) = .pointer (some ⟨X, fo, none⟩)) (hc : w.cell? ⟨X, fo, none⟩ = some v) (hK : K (a.put o.dst v) w) : Oper.wp Try.prog o a w K Q := by
  have hs' : a.tmps[s]?.getD undef = .pointer (some ⟨X, fo, none⟩) := by simpa [Act.eval] using hs
  unfold Oper.wp
  rcases hT with rfl | rfl | rfl
  · simp [execOp, ho, go_sem, hs', hc]
    exact hK
  · simp [execOp, ho, go_sem, hs', hc]
    exact hK
  · simp [execOp, ho, go_sem, hs', hc]
    exact hK

theorem op_buildS {o : Oper} {a : Act} {w : World} (ho : o.op = .buildSlice 22 0 #[]) (hK : K (a.put o.dst (.slice (some ⟨w.heap.size, 0, none⟩) 0 0)) (w.alloc (.cells #[] 9))) : Oper.wp Try.prog o a w K Q := by
  unfold Oper.wp
  simp [execOp, ho, go_sem, run_underlying Try.underlying22]
  exact hK
theorem op_buildI {o : Oper} {a : Act} {w : World} (ho : o.op = .buildSlice 23 0 #[]) (hK : K (a.put o.dst (.slice (some ⟨w.heap.size, 0, none⟩) 0 0)) (w.alloc (.cells #[] 3))) : Oper.wp Try.prog o a w K Q := by
  unfold Oper.wp
  simp [execOp, ho, go_sem, run_underlying Try.underlying23]
  exact hK

theorem op_faN {o : Oper} {a : Act} {w : World} {s X fo : Nat} (ho : o.op = .fieldAddr 25 (.tmp s) fo) (hs : a.eval (.tmp s) = .pointer (some ⟨X, 0, none⟩)) (hfo : fo = 0 ∨ fo = 1 ∨ fo = 2) (hK : K (a.put o.dst (.pointer (some ⟨X, fo, none⟩))) w) : Oper.wp Try.prog o a w K Q := by
  have hs' : a.tmps[s]?.getD undef = .pointer (some ⟨X, 0, none⟩) := by simpa [Act.eval] using hs
  unfold Oper.wp
  rcases hfo with rfl | rfl | rfl
  · simp [execOp, ho, go_sem, hs', run_underlying Try.underlying25]
    exact hK
  · simp [execOp, ho, go_sem, hs', run_underlying Try.underlying25]
    exact hK
  · simp [execOp, ho, go_sem, hs', run_underlying Try.underlying25]
    exact hK

theorem op_buildN {o : Oper} {a : Act} {w : World} {s : Nat} {x : Bool} {ra ka : Option Addr} {rn rc kn kc : Nat} (ho : o.op = .build 27 #[(0, .tmp (s + 1)), (1, .tmp (s + 5)), (2, .tmp (s + 9))]) (h1 : a.eval (.tmp (s + 1)) = .bool x) (h2 : a.eval (.tmp (s + 5)) = .slice ra rn rc) (h3 : a.eval (.tmp (s + 9)) = .slice ka kn kc) (hK : K (a.put o.dst (.agg #[.bool x, .slice ra rn rc, .slice ka kn kc])) w) : Oper.wp Try.prog o a w K Q := by
  have h1' : a.tmps[s + 1]?.getD undef = .bool x := by simpa [Act.eval] using h1
  have h2' : a.tmps[s + 5]?.getD undef = .slice ra rn rc := by simpa [Act.eval] using h2
  have h3' : a.tmps[s + 9]?.getD undef = .slice ka kn kc := by simpa [Act.eval] using h3
  unfold Oper.wp
  simp [execOp, ho, go_sem, h1', h2', h3', run_underlying Try.underlying27]
  exact hK

theorem op_allocN {o : Oper} {a : Act} {w : World} (ho : o.op = .alloc 27) (hK : K (a.put o.dst (.pointer (some ⟨w.heap.size, 0, none⟩))) (w.alloc (.cells zN 27))) : Oper.wp Try.prog o a w K Q := by
  unfold Oper.wp
  simp [execOp, ho, go_sem]
  exact hK

theorem op_storeN {o : Oper} {a : Act} {w : World} {s t p : Nat} {x : Bool} {ra ka : Option Addr} {rn rc kn kc : Nat} {cur : Array Value} (ho : o.op = .store 27 (.tmp s) (.tmp t)) (hd : o.dst = none) (hs : a.eval (.tmp s) = .pointer (some ⟨p, 0, none⟩)) (ht : a.eval (.tmp t) = .agg #[.bool x, .slice ra rn rc, .slice ka kn kc]) (hc : w.heap[p]? = some (.cells cur 27 (0, 0))) (h3 : cur.size = 3) (hK : K a (w.setCells p 0 [.bool x, .slice ra rn rc, .slice ka kn kc])) : Oper.wp Try.prog o a w K Q := by
  have hs' : a.tmps[s]?.getD undef = .pointer (some ⟨p, 0, none⟩) := by simpa [Act.eval] using hs
  have ht' : a.tmps[t]?.getD undef = .agg #[.bool x, .slice ra rn rc, .slice ka kn kc] := by simpa [Act.eval] using ht
  obtain ⟨l⟩ := cur
  match l, h3 with
  | [u0, u1, u2], _ =>
    have q0 : w.cell? ⟨p, 0, none⟩ = some u0 := cell_of_row _ _ _ _ _ _ hc
    have q1 : w.cell? ⟨p, 1, none⟩ = some u1 := cell_of_row _ _ _ _ _ _ hc
    have q2 : w.cell? ⟨p, 2, none⟩ = some u2 := cell_of_row _ _ _ _ _ _ hc
    have f0 := fun i => frozen_of_row w p i _ _ hc
    unfold Oper.wp
    simp [execOp, ho, go_sem, hs', ht', q0, q1, q2, f0]
    rw [hd]
    exact hK

theorem op_appG {o : Oper} {a : Act} {W1 : World} {t e : TypeId} {z : Value} {bytes : Nat} (ht : Try.prog.underlying t = some (.slice e)) (hinfo : (Try.prog.info? e).map (fun i => (i.zero, i.size, i.bytes)) = some (some z, 1, bytes)) (hzs : z.cells.size = 1) (hby : bytes ≤ 1000) (hgd : o.guard = none) (s x : Operand) (ho : o.op = .call { callee := .builtin .append, args := #[s, x], argTypes := #[t, t] })
    (base : Nat) (hbase : base ≤ W1.heap.size) (v : Value) (n : Nat) (xs : List Value) (hs : a.eval s = v) (h : W1.ownsRow base e 1 v n xs) (b : Option Addr) (m cap : Nat) (news : List Value) (hx : a.eval x = .slice b m cap) (hm : Src W1 b m cap news) (hl : news.length = m * 1) (h1 : ∀ u ∈ news, u.oneCell' = true) (hn : n + m ≤ 1000000)
    (hK : ∀ v' W', W'.ownsRow base e 1 v' (n + m) (xs ++ news) → W1.grownBy W' v.ownBlock → K (a.put o.dst v') W') : Oper.wp Try.prog o a W1 K Q := by
  have g := step_appS (ops := #[]) (E := True) (Q := Q) ht hinfo hzs (by decide) hby hgd s x ho base hbase v n xs hs h b m cap news hx hm hl h1 hn hK
  rwa [if_pos (by simp [Region.wanted, hgd])] at g
end

/-- What the region's operations are. -/
structure OnOps (ops : Array Oper) (s x xs : Nat) : Prop where
  o0 : ∃ o, ops[0]? = some o ∧ o.op = .fieldAddr 25 (.tmp xs) 0 ∧ o.dst = some s ∧ o.guard = none
  o1 : ∃ o, ops[1]? = some o ∧ o.op = .load 4 (.tmp s) ∧ o.dst = some (s + 1) ∧ o.guard = none ∧ depB o 0 = true
  o2 : ∃ o, ops[2]? = some o ∧ o.op = .buildSlice 22 0 #[] ∧ o.dst = some (s + 2) ∧ o.guard = none
  o3 : ∃ o, ops[3]? = some o ∧ o.op = .fieldAddr 25 (.tmp xs) 1 ∧ o.dst = some (s + 3) ∧ o.guard = none
  o4 : ∃ o, ops[4]? = some o ∧ o.op = .load 22 (.tmp (s + 3)) ∧ o.dst = some (s + 4) ∧ o.guard = none ∧ depB o 3 = true
  o5 : ∃ o, ops[5]? = some o ∧ o.op = .call { callee := .builtin .append, args := #[.tmp (s + 2), .tmp (s + 4)], argTypes := #[22, 22] } ∧ o.dst = some (s + 5) ∧ o.guard = none ∧ depB o 2 = true ∧ depB o 4 = true
  o6 : ∃ o, ops[6]? = some o ∧ o.op = .buildSlice 23 0 #[] ∧ o.dst = some (s + 6) ∧ o.guard = none
  o7 : ∃ o, ops[7]? = some o ∧ o.op = .fieldAddr 25 (.tmp xs) 2 ∧ o.dst = some (s + 7) ∧ o.guard = none
  o8 : ∃ o, ops[8]? = some o ∧ o.op = .load 23 (.tmp (s + 7)) ∧ o.dst = some (s + 8) ∧ o.guard = none ∧ depB o 7 = true
  o9 : ∃ o, ops[9]? = some o ∧ o.op = .call { callee := .builtin .append, args := #[.tmp (s + 6), .tmp (s + 8)], argTypes := #[23, 23] } ∧ o.dst = some (s + 9) ∧ o.guard = none ∧ depB o 6 = true ∧ depB o 8 = true
  o10 : ∃ o, ops[10]? = some o ∧ o.op = .build 27 #[(0, .tmp (s + 1)), (1, .tmp (s + 5)), (2, .tmp (s + 9))] ∧ o.dst = some (s + 10) ∧ o.guard = none ∧ depB o 1 = true ∧ depB o 5 = true ∧ depB o 9 = true
  o11 : ∃ o, ops[11]? = some o ∧ o.op = .alloc 27 ∧ o.dst = some x ∧ o.guard = none
  o12 : ∃ o, ops[12]? = some o ∧ o.op = .store 27 (.tmp x) (.tmp (s + 10)) ∧ o.dst = none ∧ o.guard = none ∧ depB o 10 = true ∧ depB o 11 = true
  size : ops.size = 13
  low : lowB ops = true

/-- The law. -/
theorem one_copy {ops : Array Oper} {Q : Exit → Act → World → Prop} {id : Nat} {a0 : Act} {U : World} {s x xs X : Nat} {bl : Bool} {oa na : Option Addr} {n oc m nc : Nat} {yr yk : List Value}
    (hm : Try.prog.follows .mixedOrders = true) (hops : OnOps ops s x xs) (hs : s + 11 ≤ a0.tmps.size) (hx : x < s) (hxs : xs < s) (hne : xs ≠ x) (hX : a0.eval (.tmp xs) = .pointer (some ⟨X, 0, none⟩))
    (hc : ∀ W, Below U.heap.size U W → W.cell? ⟨X, 0, none⟩ = some (.bool bl) ∧ W.cell? ⟨X, 1, none⟩ = some (.slice oa n oc) ∧ W.cell? ⟨X, 2, none⟩ = some (.slice na m nc))
    (hS1 : ∀ W, Below U.heap.size U W → Src W oa n oc yr) (hS2 : ∀ W, Below U.heap.size U W → Src W na m nc yk) (hl1 : yr.length = n * 1) (hl2 : yk.length = m * 1) (h1 : ∀ u ∈ yr, u.oneCell' = true) (h2 : ∀ u ∈ yk, u.oneCell' = true) (hn1 : n ≤ 100000) (hn2 : m ≤ 100000)
    (hQ : ∀ v0 v1 v2 v3 v4 v5 v6 v7 v8 v9 v10 W p ra rc ka kc, Below U.heap.size U W → U.heap.size ≤ p → W.heap[p]? = some (.cells #[.bool bl, .slice ra n rc, .slice ka m kc] 27 (0, 0)) → W.ownsRow U.heap.size 9 1 (.slice ra n rc) n yr → W.ownsRow U.heap.size 3 1 (.slice ka m kc) m yk →
      Q .normal ((((((((((((a0.put (some s) v0).put (some (s + 1)) v1).put (some (s + 2)) v2).put (some (s + 3)) v3).put (some (s + 4)) v4).put (some (s + 5)) v5).put (some (s + 6)) v6).put (some (s + 7)) v7).put (some (s + 8)) v8).put (some (s + 9)) v9).put (some (s + 10)) v10).put (some x) (.pointer (some ⟨p, 0, none⟩))) W) :
    (Code.region id ops true).wp Try.prog Q a0 U := by
  refine wp_region_inv (OnI U a0 s x X (.bool bl) (.slice oa n oc) (.slice na m nc) n m yr yk) hm (low_of hops.low) on_start ?_ ?_
  · intro d a w i o ho hd hdep hI
    have hxe : a.eval (.tmp xs) = .pointer (some ⟨X, 0, none⟩) := by
      have e := hI.fr.2.2 xs hne (Or.inl hxs)
      rw [← hX]
      show a.tmps.getD xs undef = a0.tmps.getD xs undef
      simp [Array.getD_eq_getD_getElem?, e]
    have hi : i < 13 := by have := (Array.getElem?_eq_some_iff.1 ho).1; rw [hops.size] at this; exact this
    obtain ⟨q0, q1, q2⟩ := hc w hI.below
    have hcase : i = 0 ∨ i = 1 ∨ i = 2 ∨ i = 3 ∨ i = 4 ∨ i = 5 ∨ i = 6 ∨ i = 7 ∨ i = 8 ∨ i = 9 ∨ i = 10 ∨ i = 11 ∨ i = 12 := by omega
    rcases hcase with rfl | rfl | rfl | rfl | rfl | rfl | rfl | rfl | rfl | rfl | rfl | rfl | rfl
    · obtain ⟨o', ho', g1, g2, g3⟩ := hops.o0
      rw [ho] at ho'; cases ho'
      refine wpOp_of ho g3 (op_faN g1 hxe (by omega) ?_)
      rw [g2]; exact on0 hI hs hx hd rfl
    · obtain ⟨o', ho', g1, g2, g3, g4⟩ := hops.o1
      rw [ho] at ho'; cases ho'
      refine wpOp_of ho g3 (op_loadV (Or.inr (Or.inr rfl)) g1 (hI.e0 (dep (dep_of g4) hdep)) q0 ?_)
      rw [g2]; exact on1 hI hs hx hd rfl
    · obtain ⟨o', ho', g1, g2, g3⟩ := hops.o2
      rw [ho] at ho'; cases ho'
      refine wpOp_of ho g3 (op_buildS g1 ?_)
      rw [g2]; exact on2 hI hs hx hd rfl
    · obtain ⟨o', ho', g1, g2, g3⟩ := hops.o3
      rw [ho] at ho'; cases ho'
      refine wpOp_of ho g3 (op_faN g1 hxe (by omega) ?_)
      rw [g2]; exact on3 hI hs hx hd rfl
    · obtain ⟨o', ho', g1, g2, g3, g4⟩ := hops.o4
      rw [ho] at ho'; cases ho'
      refine wpOp_of ho g3 (op_loadV (Or.inl rfl) g1 (hI.e3 (dep (dep_of g4) hdep)) q1 ?_)
      rw [g2]; exact on4 hI hs hx hd rfl
    · obtain ⟨o', ho', g1, g2, g3, g4, g5⟩ := hops.o5
      rw [ho] at ho'; cases ho'
      obtain ⟨vA, nA, xA, A1, A2, A3⟩ := hI.rA
      obtain ⟨r1, rfl, rfl⟩ := A2 (dep (dep_of g4) hdep) hd
      refine wpOp_of ho g3 (op_appG Try.underlying22 infoS rfl (by decide) g3 (.tmp (s + 2)) (.tmp (s + 4)) g1 U.heap.size hI.below.size vA 0 [] r1 A1 oa n oc yr (hI.e4 (dep (dep_of g5) hdep)) (hS1 _ hI.below) hl1 h1 (by omega) ?_)
      intro v' W' O G
      rw [Nat.zero_add, List.nil_append] at O
      rw [g2]; exact on5 hI hs hx hd A1 O G (dep (dep_of g4) hdep)
    · obtain ⟨o', ho', g1, g2, g3⟩ := hops.o6
      rw [ho] at ho'; cases ho'
      refine wpOp_of ho g3 (op_buildI g1 ?_)
      rw [g2]; exact on6 hI hs hx hd rfl
    · obtain ⟨o', ho', g1, g2, g3⟩ := hops.o7
      rw [ho] at ho'; cases ho'
      refine wpOp_of ho g3 (op_faN g1 hxe (by omega) ?_)
      rw [g2]; exact on7 hI hs hx hd rfl
    · obtain ⟨o', ho', g1, g2, g3, g4⟩ := hops.o8
      rw [ho] at ho'; cases ho'
      refine wpOp_of ho g3 (op_loadV (Or.inr (Or.inl rfl)) g1 (hI.e7 (dep (dep_of g4) hdep)) q2 ?_)
      rw [g2]; exact on8 hI hs hx hd rfl
    · obtain ⟨o', ho', g1, g2, g3, g4, g5⟩ := hops.o9
      rw [ho] at ho'; cases ho'
      obtain ⟨vB, nB, xB, B1, B2, B3⟩ := hI.rB
      obtain ⟨r1, rfl, rfl⟩ := B2 (dep (dep_of g4) hdep) hd
      refine wpOp_of ho g3 (op_appG Try.underlying23 infoI rfl (by decide) g3 (.tmp (s + 6)) (.tmp (s + 8)) g1 U.heap.size hI.below.size vB 0 [] r1 B1 na m nc yk (hI.e8 (dep (dep_of g5) hdep)) (hS2 _ hI.below) hl2 h2 (by omega) ?_)
      intro v' W' O G
      rw [Nat.zero_add, List.nil_append] at O
      rw [g2]; exact on9 hI hs hx hd B1 O G (dep (dep_of g4) hdep)
    · obtain ⟨o', ho', g1, g2, g3, g4, g5, g6⟩ := hops.o10
      rw [ho] at ho'; cases ho'
      have p5 := dep (dep_of g5) hdep
      have p9 := dep (dep_of g6) hdep
      obtain ⟨vA, nA, xA, A1, A2, A3⟩ := hI.rA
      obtain ⟨vB, nB, xB, B1, B2, B3⟩ := hI.rB
      obtain ⟨r1, rfl, rfl⟩ := A3 p5
      obtain ⟨r2, rfl, rfl⟩ := B3 p9
      obtain ⟨ra, rc, rfl⟩ := owns_slice A1
      obtain ⟨ka, kc, rfl⟩ := owns_slice B1
      refine wpOp_of ho g3 (op_buildN g1 (hI.e1 (dep (dep_of g4) hdep)) r1 r2 ?_)
      rw [g2]; exact on10 hI hs hx hd (by rw [r1, r2]) p5 p9
    · obtain ⟨o', ho', g1, g2, g3⟩ := hops.o11
      rw [ho] at ho'; cases ho'
      refine wpOp_of ho g3 (op_allocN g1 ?_)
      rw [g2]; exact on11 hI hs hx hd rfl
    · obtain ⟨o', ho', g1, g2, g3, g4, g5⟩ := hops.o12
      rw [ho] at ho'; cases ho'
      have p10 := dep (dep_of g4) hdep
      have p11 := dep (dep_of g5) hdep
      obtain ⟨vA, nA, xA, A1, A2, A3⟩ := hI.rA
      obtain ⟨vB, nB, xB, B1, B2, B3⟩ := hI.rB
      obtain ⟨r1, rfl, rfl⟩ := A3 (hI.c10 p10).1
      obtain ⟨r2, rfl, rfl⟩ := B3 (hI.c10 p10).2
      obtain ⟨ra, rc, rfl⟩ := owns_slice A1
      obtain ⟨ka, kc, rfl⟩ := owns_slice B1
      obtain ⟨p, cur, k0, kU, k1, k2, k3⟩ := hI.v p11
      have e10 := hI.e10 p10
      rw [r1, r2] at e10
      refine wpOp_of ho g3 (op_storeN g1 g2 k0 e10 k1 k2 ?_)
      exact on12 hI hs hx hd r1 r2 k0 p10 p11
  · intro d a w hall hI
    rw [hops.size] at hall
    obtain ⟨vA, nA, xA, A1, A2, A3⟩ := hI.rA
    obtain ⟨vB, nB, xB, B1, B2, B3⟩ := hI.rB
    obtain ⟨r1, rfl, rfl⟩ := A3 (hall 5 (by omega))
    obtain ⟨r2, rfl, rfl⟩ := B3 (hall 9 (by omega))
    obtain ⟨ra, rc, rfl⟩ := owns_slice A1
    obtain ⟨ka, kc, rfl⟩ := owns_slice B1
    obtain ⟨p, cur, k0, kU, k1, k2, k3⟩ := hI.v (hall 11 (by omega))
    have e := k3 (hall 12 (by omega))
    rw [r1, r2] at e
    subst e
    have hp := put_all (a := a) [s, s + 1, s + 2, s + 3, s + 4, s + 5, s + 6, s + 7, s + 8, s + 9, s + 10, x] a0 hI.fr.1 hI.fr.2.1 fun t ht => hI.fr.2.2 t (by simp at ht; omega) (by simp at ht; omega)
    have k0' : a.tmps.getD x undef = .pointer (some ⟨p, 0, none⟩) := k0
    simp only [List.map_cons, List.map_nil, List.foldl_cons, List.foldl_nil, k0'] at hp
    rw [← hp]
    exact hQ _ _ _ _ _ _ _ _ _ _ _ w p ra rc ka kc hI.below kU k1 A1 B1

end Go.Proofs.Ytgpahhlmpdnbpaa.Rw
