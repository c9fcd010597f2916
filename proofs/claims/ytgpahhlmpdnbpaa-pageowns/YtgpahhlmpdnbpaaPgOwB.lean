/-
  PageOwns: one pass of its loop: both rows of a node are written over, all else is kept.
-/
import Derived.Test.YtgpahhlmpdnbpaaPgOwA
namespace Go.Proofs.Ytgpahhlmpdnbpaa
open Go.RowKit

/-- In a pass that began at W0 with the rows r and k: they lie as rv and kv now, whatever they hold. -/
structure ItR (B : Nat) (U W0 : World) (r k rv kv : Value) (rn kn : Nat) (W : World) : Prop where
  below : Below B U W
  base : B ≤ W0.heap.size
  size : W0.heap.size ≤ W.heap.size
  kept : ∀ q, q < W0.heap.size → some q ≠ r.ownBlock → some q ≠ k.ownBlock → W.heap[q]? = W0.heap[q]?
  o1 : ∃ xs, W.ownsRow B 9 1 rv rn xs
  o2 : ∃ xs, W.ownsRow B 3 1 kv kn xs
  p1 : ∀ g, rv.ownBlock = some g → r.ownBlock = some g ∨ W0.heap.size ≤ g
  p2 : ∀ g, kv.ownBlock = some g → k.ownBlock = some g ∨ W0.heap.size ≤ g

theorem ItR.new {B : Nat} {U W0 : World} {r k : Value} {rn kn : Nat} {xs ys : List Value} (hb : Below B U W0) (hB : B ≤ W0.heap.size) (h1 : W0.ownsRow B 9 1 r rn xs) (h2 : W0.ownsRow B 3 1 k kn ys) : ItR B U W0 r k r k rn kn W0 :=
  ⟨hb, hB, Nat.le_refl _, fun _ _ _ _ => rfl, ⟨_, h1⟩, ⟨_, h2⟩, fun _ h => Or.inl h, fun _ h => Or.inl h⟩

theorem ItR.grow1 {B : Nat} {U W0 : World} {r k rv kv : Value} {rn kn : Nat} {W : World} (h : ItR B U W0 r k rv kv rn kn W) {v : Value} {m : Nat} {ys : List Value} {W' : World} (hg : W.grownBy W' rv.ownBlock) (ho : W'.ownsRow B 9 1 v m ys) (hv : v.ownBlock = rv.ownBlock ∨ v.ownBlock = some W.heap.size) : ItR B U W0 r k v kv m kn W' := by
  obtain ⟨xs, h1⟩ := h.o1
  obtain ⟨zs, h2⟩ := h.o2
  refine ⟨h.below.grown hg (Nat.le_trans h.base h.size) (fun k hk => (h1.lt k hk).1), h.base, Nat.le_trans h.size hg.size, fun q hq n1 n2 => ?_, ⟨_, ho⟩, ⟨_, owns_of_block h2 fun g hk => hg.block g (h2.lt g hk).2 (apart_rows h2 h1 (by decide) g hk)⟩, fun g hk => ?_, h.p2⟩
  · rw [hg.block q (Nat.lt_of_lt_of_le hq h.size) (fun e => by
      rcases h.p1 q e.symm with e' | e'
      · exact n1 e'.symm
      · omega)]
    exact h.kept q hq n1 n2
  · rcases hv with e | e
    · exact h.p1 g (by rw [← e]; exact hk)
    · rw [e] at hk
      cases hk
      exact Or.inr h.size

theorem ItR.grow2 {B : Nat} {U W0 : World} {r k rv kv : Value} {rn kn : Nat} {W : World} (h : ItR B U W0 r k rv kv rn kn W) {v : Value} {m : Nat} {ys : List Value} {W' : World} (hg : W.grownBy W' kv.ownBlock) (ho : W'.ownsRow B 3 1 v m ys) (hv : v.ownBlock = kv.ownBlock ∨ v.ownBlock = some W.heap.size) : ItR B U W0 r k rv v rn m W' := by
  obtain ⟨xs, h1⟩ := h.o1
  obtain ⟨zs, h2⟩ := h.o2
  refine ⟨h.below.grown hg (Nat.le_trans h.base h.size) (fun k hk => (h2.lt k hk).1), h.base, Nat.le_trans h.size hg.size, fun q hq n1 n2 => ?_, ⟨_, owns_of_block h1 fun g hk => hg.block g (h1.lt g hk).2 (apart_rows h1 h2 (by decide) g hk)⟩, ⟨_, ho⟩, h.p1, fun g hk => ?_⟩
  · rw [hg.block q (Nat.lt_of_lt_of_le hq h.size) (fun e => by
      rcases h.p2 q e.symm with e' | e'
      · exact n2 e'.symm
      · omega)]
    exact h.kept q hq n1 n2
  · rcases hv with e | e
    · exact h.p2 g (by rw [← e]; exact hk)
    · rw [e] at hk
      cases hk
      exact Or.inr h.size

/-- A world in which all stands. -/
theorem ItR.on {B : Nat} {U W0 : World} {r k rv kv : Value} {rn kn : Nat} {W W' : World} (h : ItR B U W0 r k rv kv rn kn W) (hb : Below W.heap.size W W') : ItR B U W0 r k rv kv rn kn W' := by
  obtain ⟨xs, h1⟩ := h.o1
  obtain ⟨zs, h2⟩ := h.o2
  exact ⟨h.below.trans (hb.mono (Nat.le_trans h.base h.size)), h.base, Nat.le_trans h.size hb.size, fun q hq n1 n2 => (hb.block q (Nat.lt_of_lt_of_le hq h.size)).trans (h.kept q hq n1 n2), ⟨_, owns_below h1 hb⟩, ⟨_, owns_below h2 hb⟩, h.p1, h.p2⟩

/-- A field of the node's variable is set. -/
theorem ItR.box {B : Nat} {U W0 : World} {r k rv kv : Value} {rn kn : Nat} {W : World} (h : ItR B U W0 r k rv kv rn kn W) {X : Nat} {cs : Array Value} (hX : W.heap[X]? = some (.cells cs 25 (0, 0))) (hlo : W0.heap.size ≤ X) (i : Nat) (u : Value) : ItR B U W0 r k rv kv rn kn (W.setCell ⟨X, i, none⟩ u) := by
  obtain ⟨xs, h1⟩ := h.o1
  obtain ⟨zs, h2⟩ := h.o2
  exact ⟨h.below.setCell (p := ⟨X, i, none⟩) (Nat.le_trans h.base hlo) u, h.base, by simp [World.setCell]; exact h.size, fun q hq n1 n2 => (heap_setCell_other _ _ _ _ (fun (e : q = X) => by omega)).trans (h.kept q hq n1 n2), ⟨_, owns_node h1 (by decide) hX i u⟩, ⟨_, owns_node h2 (by decide) hX i u⟩, h.p1, h.p2⟩

/-- One of the three nodes that the loop goes over. -/
structure Tr where
  a : Option Addr
  n : Nat
  c : Nat
  a' : Option Addr
  n' : Nat
  c' : Nat

def Tr.r (t : Tr) : Value := .slice t.a t.n t.c
def Tr.k (t : Tr) : Value := .slice t.a' t.n' t.c'

/-- It lies in rows of the program's own from B on. -/
structure Tr.Own (B : Nat) (t : Tr) (W : World) : Prop where
  m1 : t.n ≤ 2100
  m2 : t.n' ≤ 2100
  o1 : ∃ xs, W.ownsRow B 9 1 t.r t.n xs
  o2 : ∃ xs, W.ownsRow B 3 1 t.k t.n' xs

/-- Nothing of the one lies in the other. -/
def Tr.Apart (t s : Tr) : Prop := (∀ g, t.r.ownBlock = some g → s.r.ownBlock ≠ some g) ∧ ∀ g, t.k.ownBlock = some g → s.k.ownBlock ≠ some g

def nine (lf : Bool) (t1 t2 t3 : Tr) : Array Value := #[.bool lf, t1.r, t1.k, .bool lf, t2.r, t2.k, .bool lf, t3.r, t3.k]

/-- Before pass j. -/
structure LI (U : World) (Q : Nat) (lf : Bool) (t1 t2 t3 : Tr) (j : Nat) (W : World) : Prop where
  below : Below U.heap.size U W
  arr : W.heap[Q]? = some (.cells (nine lf t1 t2 t3) 25 (0, 0))
  rows : ∀ (i : Nat) (t : Tr), j ≤ i → [t1, t2, t3][i]? = some t → t.Own U.heap.size W
  apart : ∀ (i i' : Nat) (t s : Tr), i < i' → [t1, t2, t3][i]? = some t → [t1, t2, t3][i']? = some s → t.Apart s

theorem LI.cells {U : World} {Q : Nat} {lf : Bool} {t1 t2 t3 : Tr} {j : Nat} {W : World} (h : LI U Q lf t1 t2 t3 j W) (hj : j < 3) : ∃ t, [t1, t2, t3][j]? = some t ∧ W.cell? ⟨Q, j * 3, none⟩ = some (.bool lf) ∧ W.cell? ⟨Q, j * 3 + 1, none⟩ = some t.r ∧ W.cell? ⟨Q, j * 3 + 2, none⟩ = some t.k ∧ t.Own U.heap.size W ∧ Q < W.heap.size := by
  have hq := (Array.getElem?_eq_some_iff.1 h.arr).1
  have hj' : j = 0 ∨ j = 1 ∨ j = 2 := by omega
  rcases hj' with rfl | rfl | rfl
  · exact ⟨t1, rfl, by rw [cell_of_row _ _ _ _ _ _ h.arr]; rfl, by rw [cell_of_row _ _ _ _ _ _ h.arr]; rfl, by rw [cell_of_row _ _ _ _ _ _ h.arr]; rfl, h.rows 0 _ (Nat.le_refl _) rfl, hq⟩
  · exact ⟨t2, rfl, by rw [cell_of_row _ _ _ _ _ _ h.arr]; rfl, by rw [cell_of_row _ _ _ _ _ _ h.arr]; rfl, by rw [cell_of_row _ _ _ _ _ _ h.arr]; rfl, h.rows 1 _ (Nat.le_refl _) rfl, hq⟩
  · exact ⟨t3, rfl, by rw [cell_of_row _ _ _ _ _ _ h.arr]; rfl, by rw [cell_of_row _ _ _ _ _ _ h.arr]; rfl, by rw [cell_of_row _ _ _ _ _ _ h.arr]; rfl, h.rows 2 _ (Nat.le_refl _) rfl, hq⟩

theorem own_ne_tag {W : World} {B : Nat} {e : TypeId} {v : Value} {n : Nat} {xs : List Value} (h : W.ownsRow B e 1 v n xs) {Q T : Nat} {cs : Array Value} (hQ : W.heap[Q]? = some (.cells cs T (0, 0))) (hT : e ≠ T) : some Q ≠ v.ownBlock := fun he => by
  obtain ⟨cur, ht⟩ := owns_tag h he.symm
  rw [hQ] at ht
  cases ht
  exact hT rfl

theorem LI.step {U : World} {Q : Nat} {lf : Bool} {t1 t2 t3 : Tr} {j : Nat} {W0 W : World} (h : LI U Q lf t1 t2 t3 j W0) {t : Tr} (ht : [t1, t2, t3][j]? = some t) {rv kv : Value} {rn kn : Nat} (hi : ItR U.heap.size U W0 t.r t.k rv kv rn kn W) : LI U Q lf t1 t2 t3 (j + 1) W := by
  have ho := h.rows j t (Nat.le_refl _) ht
  obtain ⟨x1, p1⟩ := ho.o1
  obtain ⟨x2, p2⟩ := ho.o2
  refine ⟨hi.below, ?_, fun i s hij hs => ?_, h.apart⟩
  · rw [hi.kept Q (Array.getElem?_eq_some_iff.1 h.arr).1 (own_ne_tag p1 h.arr (by decide)) (own_ne_tag p2 h.arr (by decide))]
    exact h.arr
  · have hs' := h.rows i s (by omega) hs
    obtain ⟨y1, q1⟩ := hs'.o1
    obtain ⟨y2, q2⟩ := hs'.o2
    obtain ⟨a1, a2⟩ := h.apart j i t s (by omega) ht hs
    exact ⟨hs'.m1, hs'.m2,
      ⟨_, owns_of_block q1 fun g hg => hi.kept g (q1.lt g hg).2 (fun e => a1 g e.symm hg) (apart_rows q1 p2 (by decide) g hg)⟩,
      ⟨_, owns_of_block q2 fun g hg => hi.kept g (q2.lt g hg).2 (apart_rows q2 p1 (by decide) g hg) (fun e => a2 g e.symm hg)⟩⟩

theorem LI.start {wc w6 w7 : World} {lf : Bool} {sp : ByteArray} {y1 : Option Addr} {n1 t1 : Nat} {y2 : Option Addr} {n2 t2 : Nat} {y3 : Option Addr} {n3 t3 : Nat} {y4 : Option Addr} {n4 t4 : Nat} {y5 : Option Addr} {n5 t5 : Nat} {y6 : Option Addr} {n6 t6 : Nat} (hp : Parts lf wc sp y1 n1 t1 y2 n2 t2 y3 n3 t3 y4 n4 t4 w6) (ht : Below w6.heap.size w6 w7) (j1 : OwnS w6.heap.size y5 n5 t5 w7) (j2 : OwnI w6.heap.size y6 n6 t6 w7) (bx : Obj) :
    LI wc (w7.heap.size + 1) lf ⟨y1, n1, t1, y2, n2, t2⟩ ⟨y3, n3, t3, y4, n4, t4⟩ ⟨y5, n5, t5, y6, n6, t6⟩ 0 ((w7.alloc bx).alloc (.cells (nine lf ⟨y1, n1, t1, y2, n2, t2⟩ ⟨y3, n3, t3, y4, n4, t4⟩ ⟨y5, n5, t5, y6, n6, t6⟩) 25)) := by
  have z1 : (w7.alloc bx).heap.size = w7.heap.size + 1 := by simp
  have B8 := below_on (below_alloc w7 bx) (below_alloc (w7.alloc bx) (.cells (nine lf ⟨y1, n1, t1, y2, n2, t2⟩ ⟨y3, n3, t3, y4, n4, t4⟩ ⟨y5, n5, t5, y6, n6, t6⟩) 25))
  obtain ⟨m1, x1, o1⟩ := hp.o1
  obtain ⟨m2, x2, o2⟩ := hp.o2
  obtain ⟨m3, x3, o3⟩ := hp.o3
  obtain ⟨m4, x4, o4⟩ := hp.o4
  obtain ⟨m5, x5, o5⟩ := j1
  obtain ⟨m6, x6, o6⟩ := j2
  have lo := hp.below.size
  refine ⟨below_on hp.below (below_on ht B8), ?_, fun i t _ hi => ?_, fun i i' t s hlt hi hi' => ?_⟩
  · rw [← z1]; exact heap_alloc_last _ _
  · match i, hi with
    | 0, hi => cases hi; exact ⟨m1, m2, ⟨_, owns_below (owns_below o1 ht) B8⟩, ⟨_, owns_below (owns_below o2 ht) B8⟩⟩
    | 1, hi => cases hi; exact ⟨m3, m4, ⟨_, owns_below (owns_below o3 ht) B8⟩, ⟨_, owns_below (owns_below o4 ht) B8⟩⟩
    | 2, hi => cases hi; exact ⟨m5, m6, ⟨_, owns_base (owns_below o5 B8) lo⟩, ⟨_, owns_base (owns_below o6 B8) lo⟩⟩
    | i + 3, hi => simp at hi
  · have h3 : i' < 3 := (List.getElem?_eq_some_iff.1 hi').1
    rcases (by omega : (i = 0 ∧ i' = 1) ∨ (i = 0 ∧ i' = 2) ∨ (i = 1 ∧ i' = 2)) with ⟨rfl, rfl⟩ | ⟨rfl, rfl⟩ | ⟨rfl, rfl⟩
    · cases hi; cases hi'; exact ⟨hp.ap1, hp.ap2⟩
    · cases hi; cases hi'; exact ⟨fun g h h' => by have := (o1.lt g h).2; have := (o5.lt g h').1; omega, fun g h h' => by have := (o2.lt g h).2; have := (o6.lt g h').1; omega⟩
    · cases hi; cases hi'; exact ⟨fun g h h' => by have := (o3.lt g h).2; have := (o5.lt g h').1; omega, fun g h h' => by have := (o4.lt g h).2; have := (o6.lt g h').1; omega⟩

/-- In a pass, with the node's variable. -/
structure Pass (U W0 : World) (lf : Bool) (a : Option Addr) (n c : Nat) (a' : Option Addr) (n' c' : Nat) (ra : Option Addr) (rn rc : Nat) (ka : Option Addr) (kn kc : Nat) (W : World) : Prop where
  it : ItR U.heap.size U W0 (.slice a n c) (.slice a' n' c') (.slice ra rn rc) (.slice ka kn kc) rn kn W
  box : W.heap[W0.heap.size]? = some (.cells #[.bool lf, .slice ra rn rc, .slice ka kn kc] 25 (0, 0))

theorem Pass.cells {U W0 : World} {lf : Bool} {a : Option Addr} {n c : Nat} {a' : Option Addr} {n' c' : Nat} {ra : Option Addr} {rn rc : Nat} {ka : Option Addr} {kn kc : Nat} {W : World} (h : Pass U W0 lf a n c a' n' c' ra rn rc ka kn kc W) : W.cell? ⟨W0.heap.size, 0, none⟩ = some (.bool lf) ∧ W.cell? ⟨W0.heap.size, 1, none⟩ = some (.slice ra rn rc) ∧ W.cell? ⟨W0.heap.size, 2, none⟩ = some (.slice ka kn kc) ∧ W0.heap.size < W.heap.size :=
  ⟨by rw [cell_of_row _ _ _ _ _ _ h.box]; rfl, by rw [cell_of_row _ _ _ _ _ _ h.box]; rfl, by rw [cell_of_row _ _ _ _ _ _ h.box]; rfl, (Array.getElem?_eq_some_iff.1 h.box).1⟩

theorem owns_cell {W : World} {B : Nat} {e : TypeId} {a : Option Addr} {n c : Nat} {xs : List Value} (h : W.ownsRow B e 1 (.slice a n c) n xs) {i : Nat} (hi : i < n) : ∃ g v, a = some ⟨g, 0, none⟩ ∧ W.cell? ⟨g, i, none⟩ = some v ∧ W.frozen? ⟨g, i, none⟩ = false ∧ g < W.heap.size := by
  rcases h.2 with ⟨h', h0⟩ | ⟨g, cap, cur, h', hb, hg, h1, h2, h3, h4⟩
  · omega
  · cases h'
    refine ⟨g, cur[i]'(by omega), rfl, ?_, frozen_of_row _ _ _ _ _ hg, (Array.getElem?_eq_some_iff.1 hg).1⟩
    rw [cell_of_row _ _ _ _ _ _ hg]
    exact Array.getElem?_eq_getElem (by omega)

theorem Pass.set1 {U W0 : World} {lf : Bool} {a : Option Addr} {n c : Nat} {a' : Option Addr} {n' c' : Nat} {g rn rc : Nat} {ka : Option Addr} {kn kc : Nat} {W : World} (h : Pass U W0 lf a n c a' n' c' (some ⟨g, 0, none⟩) rn rc ka kn kc W) (i : Nat) (u : Value) : Pass U W0 lf a n c a' n' c' (some ⟨g, 0, none⟩) rn rc ka kn kc (W.setCell ⟨g, i, none⟩ u) := by
  obtain ⟨xs, o1⟩ := h.it.o1
  obtain ⟨p1, p2⟩ := o1.stored i u
  exact ⟨h.it.grow1 p2 p1 (Or.inl rfl), (p2.block _ (Array.getElem?_eq_some_iff.1 h.box).1 (own_ne_tag o1 h.box (by decide))).trans h.box⟩

theorem Pass.set2 {U W0 : World} {lf : Bool} {a : Option Addr} {n c : Nat} {a' : Option Addr} {n' c' : Nat} {ra : Option Addr} {rn rc : Nat} {g kn kc : Nat} {W : World} (h : Pass U W0 lf a n c a' n' c' ra rn rc (some ⟨g, 0, none⟩) kn kc W) (i : Nat) (u : Value) : Pass U W0 lf a n c a' n' c' ra rn rc (some ⟨g, 0, none⟩) kn kc (W.setCell ⟨g, i, none⟩ u) := by
  obtain ⟨xs, o2⟩ := h.it.o2
  obtain ⟨p1, p2⟩ := o2.stored i u
  exact ⟨h.it.grow2 p2 p1 (Or.inl rfl), (p2.block _ (Array.getElem?_eq_some_iff.1 h.box).1 (own_ne_tag o2 h.box (by decide))).trans h.box⟩
end Go.Proofs.Ytgpahhlmpdnbpaa
