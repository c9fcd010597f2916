/-
  Rows of anything: slices of structs in memory, whatever the struct: their cells one behind the other (flat), read (SlG), owned (World.ownsRow), appended to, stored into, cut.
-/
import Derived.WalkKit
import Derived.Below
import Derived.BigQuiet
import Derived.Laws.OwnMore
import Derived.Laws.AppendOwnNone
import Derived.Maps.AppendAt
import Derived.Laws.IdiomCopy
import Derived.Deep.RegionLaw
import Derived.Test.YtlckoenkogaibaaProg
namespace Go.Proofs.Ytlckoenkogaibaa.Rw
open Go.RowKit

theorem dh {p : Prop} (h : p) : Hid p := h
theorem to_letter {p F : World → Prop} {W0 : World} (h : F W0) (k : ∀ W, F W → p W) : p W0 := k W0 h
theorem below_alloc (w : World) (o : Obj) : Below w.heap.size w (w.alloc o) := (Below.refl _ _).alloc (Nat.le_refl _) o
theorem below_on {B : Nat} {a w w1 : World} (h : Below B a w) (h1 : Below w.heap.size w w1) (hB : B ≤ w.heap.size := by omega) : Below B a w1 := h.trans (h1.mono hB)
theorem heap_new (w : World) (o : Obj) : (w.alloc o).heap[w.heap.size]? = some o := heap_alloc_new w o
theorem heap_new' (w : World) (o : Obj) {k : Nat} (h : k = w.heap.size) : (w.alloc o).heap[k]? = some o := by rw [h]; exact heap_new w o
theorem add_none (b o j : Nat) : (⟨b, o, none⟩ : Addr).add j = ⟨b, o + j, none⟩ := by unfold Addr.add; split <;> simp_all
theorem grown_none {w w' : World} (h : w.grownBy w' none) : Below w.heap.size w w' := ⟨h.os, h.tape, h.output, h.size, fun k hk => h.block k hk (by simp)⟩
theorem ret_bool {a b : Bool} (h : a = b) : Ending.returned (.bool a) = .returned (.bool b) := by rw [h]
theorem ret_int {a b : Int} (h : a = b) : Ending.returned (.int .i64 a) = .returned (.int .i64 b) := by rw [h]

section
variable {α : Type} {f : α → List Value} {k : Nat}

/-- The cells of a list, one behind the other. -/
def flat (f : α → List Value) (l : List α) : List Value := l.flatMap f

theorem flat_cons (x : α) (l : List α) : flat f (x :: l) = f x ++ flat f l := rfl
theorem flat_append (l m : List α) : flat f (l ++ m) = flat f l ++ flat f m := by simp [flat]

theorem flat_length (hf : ∀ x, (f x).length = k) (l : List α) : (flat f l).length = l.length * k := by
  induction l with
  | nil => simp [flat]
  | cons x l ih => rw [flat_cons, List.length_append, hf, ih, List.length_cons, Nat.add_mul, Nat.one_mul, Nat.add_comm]

theorem flat_take (hf : ∀ x, (f x).length = k) : ∀ (l : List α) (n : Nat), flat f (l.take n) = (flat f l).take (n * k)
  | [], n => by simp [flat]
  | x :: l, 0 => by simp [flat]
  | x :: l, n + 1 => by
    rw [List.take_succ_cons, flat_cons, flat_cons, flat_take hf l n, List.take_append, hf, List.take_of_length_le (l := f x) (by rw [hf, Nat.add_mul]; omega), show (n + 1) * k - k = n * k by rw [Nat.add_mul]; omega]

theorem flat_at (hf : ∀ x, (f x).length = k) : ∀ (l : List α) (j : Nat) (x : α), l[j]? = some x → ∀ i u, (f x)[i]? = some u → (flat f l)[j * k + i]? = some u
  | [], j, x, h => by simp at h
  | y :: l, 0, x, h => by
    simp at h
    subst h
    intro i u hu
    rw [flat_cons, Nat.zero_mul, Nat.zero_add, List.getElem?_append_left (List.getElem?_eq_some_iff.1 hu).1, hu]
  | y :: l, j + 1, x, h => by
    intro i u hu
    rw [flat_cons, List.getElem?_append_right (by rw [hf, Nat.add_mul]; omega), hf, show (j + 1) * k + i - k = j * k + i by rw [Nat.add_mul]; omega]
    exact flat_at hf l j x (by simpa using h) i u hu

theorem flat_one (h1 : ∀ x, ∀ u ∈ f x, u.oneCell' = true) {l : List α} : ∀ u ∈ flat f l, u.oneCell' = true := by
  intro u hu
  obtain ⟨p, _, hp⟩ := List.mem_flatMap.1 hu
  exact h1 p u hp

/-- Cells stored one behind the other. -/
def setAt : List Value → Nat → List Value → List Value
  | xs, _, [] => xs
  | xs, o, c :: cs => setAt (xs.set o c) (o + 1) cs

theorem setAt_right (ps : List Value) : ∀ (cs xs : List Value) (o : Nat), setAt (ps ++ xs) (ps.length + o) cs = ps ++ setAt xs o cs
  | [], _, _ => rfl
  | c :: cs, xs, o => by
    show setAt ((ps ++ xs).set (ps.length + o) c) (ps.length + o + 1) cs = ps ++ setAt (xs.set o c) (o + 1) cs
    rw [List.set_append_right _ _ (by omega), show ps.length + o - ps.length = o by omega, Nat.add_assoc, setAt_right ps cs (xs.set o c) (o + 1)]

theorem setAt_left : ∀ (cs ps ys zs : List Value), ps.length = cs.length → setAt (ys ++ ps ++ zs) ys.length cs = ys ++ cs ++ zs
  | [], ps, ys, zs, h => by simp at h; subst h; simp [setAt]
  | c :: cs, [], ys, zs, h => by simp at h
  | c :: cs, a :: ps, ys, zs, h => by
    show setAt ((ys ++ a :: ps ++ zs).set ys.length c) (ys.length + 1) cs = _
    have e : (ys ++ a :: ps ++ zs).set ys.length c = (ys ++ [c]) ++ ps ++ zs := by
      rw [List.append_assoc, List.set_append_right _ _ (Nat.le_refl _), Nat.sub_self]
      simp
    rw [e, show ys.length + 1 = (ys ++ [c]).length by simp, setAt_left cs ps (ys ++ [c]) zs (by simpa using h)]
    simp

theorem flat_set (hf : ∀ x, (f x).length = k) (x : α) : ∀ (l : List α) (j : Nat), j < l.length → setAt (flat f l) (j * k) (f x) = flat f (l.set j x)
  | [], j, h => by simp at h
  | y :: l, 0, h => by
    rw [List.set_cons_zero, flat_cons, flat_cons, Nat.zero_mul]
    have := setAt_left (f x) (f y) [] (flat f l) (by rw [hf, hf])
    simpa using this
  | y :: l, j + 1, h => by
    rw [List.set_cons_succ, flat_cons, flat_cons, show (j + 1) * k = (f y).length + j * k by rw [hf, Nat.add_mul]; omega, setAt_right, flat_set hf x l j (by simpa using h)]

/-- The elements of a slice whose first lies at a. -/
def SlG (f : α → List Value) (k : Nat) (W : World) (a : Option Addr) (l : List α) : Prop := l = [] ∨ ∃ b o, a = some ⟨b, o, none⟩ ∧ b < W.heap.size ∧ ∀ j x, l[j]? = some x → ∀ i u, (f x)[i]? = some u → W.cell? ⟨b, o + j * k + i, none⟩ = some u

theorem SlG.turn {W W' : World} {a : Option Addr} {l : List α} (h : SlG f k W a l) (hs : W.heap.size ≤ W'.heap.size) (hb : ∀ b o, a = some ⟨b, o, none⟩ → b < W.heap.size → W'.heap[b]? = W.heap[b]?) : SlG f k W' a l := by
  rcases h with h | ⟨b, o, e, hlt, hc⟩
  · exact Or.inl h
  · refine Or.inr ⟨b, o, e, Nat.lt_of_lt_of_le hlt hs, fun j x hj i u hu => ?_⟩
    rw [World.cell?_of_block (w := W) (w' := W') (a := ⟨b, o + j * k + i, none⟩) (hb _ _ e hlt)]
    exact hc j x hj i u hu

theorem SlG.below {W W' : World} {a : Option Addr} {l : List α} (h : SlG f k W a l) (hb : Below W.heap.size W W') : SlG f k W' a l := h.turn hb.size fun b _ _ hlt => hb.block b hlt

theorem SlG.at {W : World} {a : Option Addr} {l : List α} (h : SlG f k W a l) {j : Nat} (hj : j < l.length) : ∃ b o x, a = some ⟨b, o, none⟩ ∧ b < W.heap.size ∧ l[j]? = some x ∧ ∀ i u, (f x)[i]? = some u → W.cell? ⟨b, o + j * k + i, none⟩ = some u := by
  rcases h with rfl | ⟨b, o, e, hlt, hc⟩
  · simp at hj
  · exact ⟨b, o, l[j], e, hlt, List.getElem?_eq_getElem hj, hc j _ (List.getElem?_eq_getElem hj)⟩

theorem SlG.take {W : World} {a : Option Addr} {l : List α} (h : SlG f k W a l) (n : Nat) : SlG f k W a (l.take n) := by
  rcases h with rfl | ⟨b, o, e, hlt, hc⟩
  · exact Or.inl (by simp)
  · refine Or.inr ⟨b, o, e, hlt, fun j c hj => hc j c ?_⟩
    rw [List.getElem?_take] at hj
    split at hj
    · exact hj
    · cases hj

theorem SlG.drop {W : World} {b o : Nat} {l : List α} (h : SlG f k W (some ⟨b, o, none⟩) l) (n : Nat) : SlG f k W (some ⟨b, o + n * k, none⟩) (l.drop n) := by
  rcases h with rfl | ⟨b', o', e, hlt, hc⟩
  · exact Or.inl (by simp)
  · cases e
    refine Or.inr ⟨b, _, rfl, hlt, fun j c hj i u hu => ?_⟩
    rw [List.getElem?_drop] at hj
    have := hc _ _ hj i u hu
    rw [show o + n * k + j * k = o + (n + j) * k by rw [Nat.add_mul]; omega]
    exact this

/-- A slice that can be read: m elements, whose cells are these. -/
def Src (W : World) (a : Option Addr) (m c : Nat) (news : List Value) : Prop := (a = none ∧ m = 0 ∧ c = 0 ∧ news = []) ∨ ∃ ad, a = some ad ∧ ∀ j u, news[j]? = some u → W.cell? (ad.add j) = some u

theorem SlG.src (hf : ∀ x, (f x).length = k) (hk : 0 < k) {W : World} {a : Option Addr} {l : List α} (h : SlG f k W a l) {m c : Nat} (hm : l.length = m) (hc : a = none → c = 0) : Src W a m c (flat f l) := by
  rcases h with rfl | ⟨b, o, rfl, hb, hv⟩
  · cases a with
    | none => exact Or.inl ⟨rfl, by simpa using hm.symm, hc rfl, rfl⟩
    | some ad => exact Or.inr ⟨ad, rfl, fun j u hu => by simp [flat] at hu⟩
  · refine Or.inr ⟨_, rfl, fun j u hu => ?_⟩
    rw [add_none]
    have hj := (List.getElem?_eq_some_iff.1 hu).1
    rw [flat_length hf] at hj
    have hd : j / k < l.length := (Nat.div_lt_iff_lt_mul hk).2 hj
    have hx := List.getElem?_eq_getElem (l := l) hd
    have hr : j % k < (f l[j / k]).length := by rw [hf]; exact Nat.mod_lt _ hk
    have hu' := flat_at hf l _ _ hx (j % k) _ (List.getElem?_eq_getElem hr)
    have e : j / k * k + j % k = j := by rw [Nat.mul_comm]; exact Nat.div_add_mod j k
    rw [e, hu] at hu'
    cases hu'
    have := hv _ _ hx (j % k) _ (List.getElem?_eq_getElem hr)
    rwa [Nat.add_assoc, e] at this

theorem owns_below {W W' : World} {base : Nat} {e : TypeId} {size : Nat} {v : Value} {n : Nat} {xs : List Value} (h : W.ownsRow base e size v n xs) (hb : ∀ q, v.ownBlock = some q → W'.heap[q]? = W.heap[q]?) : W'.ownsRow base e size v n xs := by
  refine ⟨h.1, ?_⟩
  rcases h.2 with hn | ⟨g, cap, cur, rfl, hbg, hgg, rest⟩
  · exact .inl hn
  · exact .inr ⟨g, cap, cur, rfl, hbg, by rw [hb g rfl]; exact hgg, rest⟩

theorem owns_on {W W' : World} {base : Nat} {e : TypeId} {size : Nat} {v : Value} {n : Nat} {xs : List Value} (h : W.ownsRow base e size v n xs) (hb : Below W.heap.size W W') : W'.ownsRow base e size v n xs := owns_below h fun q hq => hb.block q (h.lt q hq).2

theorem owns_mono {W : World} {base base' : Nat} {e : TypeId} {size : Nat} {v : Value} {n : Nat} {xs : List Value} (h : W.ownsRow base e size v n xs) (hb : ∀ q, v.ownBlock = some q → base' ≤ q) : W.ownsRow base' e size v n xs := by
  refine ⟨h.1, ?_⟩
  rcases h.2 with hn | ⟨g, cap, cur, rfl, hbg, rest⟩
  · exact .inl hn
  · exact .inr ⟨g, cap, cur, rfl, hb g rfl, rest⟩

theorem owns_slice {W : World} {base : Nat} {e : TypeId} {size : Nat} {v : Value} {n : Nat} {xs : List Value} (h : W.ownsRow base e size v n xs) : ∃ a c, v = .slice a n c := by
  rcases h.2 with ⟨rfl, h0⟩ | ⟨g, cap, cur, rfl, _⟩
  · exact ⟨none, 0, by rw [h0]⟩
  · exact ⟨_, _, rfl⟩

theorem owns_cap {W : World} {base e size : Nat} {a : Option Addr} {n c m : Nat} {xs : List Value} (h : W.ownsRow base e size (.slice a n c) m xs) : n ≤ c ∧ c ≤ maxLen := by
  rcases h.2 with ⟨e, _⟩ | ⟨g, cap, cur, e, _, _, hc, hm, _⟩
  · cases e; exact ⟨Nat.le_refl _, Nat.zero_le _⟩
  · cases e; exact ⟨hc, hm⟩

theorem owns_addr {W : World} {base e size : Nat} {a : Option Addr} {n c m : Nat} {xs : List Value} (h : W.ownsRow base e size (.slice a n c) m xs) : (a = none ∧ n = 0 ∧ c = 0) ∨ ∃ g, a = some ⟨g, 0, none⟩ := by
  rcases h.2 with ⟨e, _⟩ | ⟨g, cap, cur, e, _⟩
  · cases e; exact Or.inl ⟨rfl, rfl, rfl⟩
  · cases e; exact Or.inr ⟨g, rfl⟩

theorem owns_block {W : World} {base e size : Nat} {v : Value} {n : Nat} {xs : List Value} (h : W.ownsRow base e size v n xs) {q : Nat} (hq : v.ownBlock = some q) : ∃ cur, W.heap[q]? = some (.cells cur e (0, 0)) := by
  rcases h.2 with ⟨rfl, _⟩ | ⟨g, cap, cur, rfl, _, hg, _⟩
  · cases hq
  · cases hq; exact ⟨cur, hg⟩

/-- Rows of two kinds share no block. -/
theorem owns_ne {W : World} {b1 b2 e1 e2 s1 s2 : Nat} {v1 v2 : Value} {n1 n2 : Nat} {xs ys : List Value} (h1 : W.ownsRow b1 e1 s1 v1 n1 xs) (h2 : W.ownsRow b2 e2 s2 v2 n2 ys) (hne : e1 ≠ e2) {q : Nat} (g1 : v1.ownBlock = some q) (g2 : v2.ownBlock = some q) : False := by
  obtain ⟨c1, k1⟩ := owns_block h1 g1
  obtain ⟨c2, k2⟩ := owns_block h2 g2
  rw [k1] at k2
  cases k2
  exact hne rfl

theorem owns_far {W : World} {b1 e1 s1 : Nat} {v1 : Value} {n1 : Nat} {xs : List Value} (h1 : W.ownsRow b1 e1 s1 v1 n1 xs) {g e2 : Nat} {cur : Array Value} {m : Nat × Nat} (hg : W.heap[g]? = some (Obj.cells cur e2 m)) (hne : e1 ≠ e2) : v1.ownBlock ≠ some g := fun h => by
  obtain ⟨c1, k1⟩ := owns_block h1 h
  rw [k1] at hg
  cases hg
  exact hne rfl

/-- A row of the call's own, read as a slice. -/
theorem owns_slg (hf : ∀ x, (f x).length = k) (hk : 0 < k) {W : World} {base e : Nat} {a : Option Addr} {n c : Nat} {l : List α} (h : W.ownsRow base e k (.slice a n c) n (flat f l)) : l.length = n ∧ SlG f k W a l ∧ (a = none → c = 0) := by
  have hl : l.length = n := by have := h.1; rw [flat_length hf] at this; exact Nat.eq_of_mul_eq_mul_right hk this
  refine ⟨hl, ?_, ?_⟩
  · rcases h.2 with ⟨e, h0⟩ | ⟨g, cap, cur, e, hg, hb, _⟩
    · exact Or.inl (List.length_eq_zero_iff.1 (by omega))
    · cases e
      refine Or.inr ⟨g, 0, rfl, (Array.getElem?_eq_some_iff.1 hb).1, fun j x hj i u hu => ?_⟩
      have := World.ownsRow.cells h (g := g) rfl _ u (flat_at hf l j x hj i u hu)
      rw [add_none] at this
      rwa [Nat.add_assoc]
  · rintro rfl
    rcases h.2 with ⟨e, h0⟩ | ⟨g, cap, cur, e, _⟩
    · injection e
    · injection e with e; cases e

/-- A cell of an element of a row. -/
theorem own_at (hf : ∀ x, (f x).length = k) {W : World} {base e g n m c : Nat} {l : List α} (h : W.ownsRow base e k (.slice (some ⟨g, 0, none⟩) n c) m (flat f l)) {j : Nat} {x : α} (hj : l[j]? = some x) {i : Nat} {u : Value} (hu : (f x)[i]? = some u) : W.cell? ⟨g, j * k + i, none⟩ = some u := by
  have := World.ownsRow.cells h (g := g) rfl _ u (flat_at hf l j x hj i u hu)
  rwa [add_none, Nat.zero_add] at this

theorem own_fro {W : World} {base e size g n m c : Nat} {xs : List Value} (h : W.ownsRow base e size (.slice (some ⟨g, 0, none⟩) n c) m xs) (o : Nat) : W.frozen? ⟨g, o, none⟩ = false ∧ g < W.heap.size := by
  obtain ⟨cur, hc⟩ := owns_block h (q := g) rfl
  exact ⟨frozen_of_row _ _ _ _ _ hc, (Array.getElem?_eq_some_iff.1 hc).1⟩

theorem owns_src {W : World} {base e size : Nat} {a : Option Addr} {n c : Nat} {xs : List Value} (h : W.ownsRow base e size (.slice a n c) n xs) : Src W a n c xs := by
  rcases h.2 with ⟨e, h0⟩ | ⟨g, cap, cur, e, _⟩
  · cases e
    have := h.1
    rw [h0, Nat.zero_mul] at this
    exact Or.inl ⟨rfl, rfl, rfl, List.length_eq_zero_iff.1 this⟩
  · cases e
    exact Or.inr ⟨_, rfl, fun j u hu => World.ownsRow.cells h (g := g) rfl j u hu⟩

theorem own_new {W : World} {base e q size : Nat} (hq : W.heap[q]? = some (.cells #[] e (0, 0))) (hw : base ≤ q) : W.ownsRow base e size (.slice (some ⟨q, 0, none⟩) 0 0) 0 [] :=
  ⟨by simp, Or.inr ⟨q, 0, #[], rfl, hw, hq, Nat.le_refl _, by unfold maxLen; omega, by simp, by simp⟩⟩

/-- Cut to its first m. -/
theorem own_take (hf : ∀ x, (f x).length = k) {W : World} {B e : Nat} {a : Option Addr} {n c m : Nat} {L : List α} (h : W.ownsRow B e k (.slice a n c) n (flat f L)) (hm : m ≤ n) : W.ownsRow B e k (.slice a m c) m (flat f (L.take m)) := by
  rcases h with ⟨h1, h2⟩
  rw [flat_take hf L m]
  refine ⟨by rw [List.length_take, h1]; exact Nat.min_eq_left (Nat.mul_le_mul_right _ hm), ?_⟩
  rcases h2 with ⟨e1, e2⟩ | ⟨g, cap, cur, e1, g1, g2, g3, g4, g5, g6⟩
  · cases e1
    have : m = 0 := by omega
    subst this
    exact Or.inl ⟨rfl, rfl⟩
  · cases e1
    exact Or.inr ⟨g, _, cur, rfl, g1, g2, by omega, g4, g5, by rw [← g6, List.take_take, Nat.min_eq_left (Nat.mul_le_mul_right _ hm)]⟩

/-- A cell of a row is stored. -/
theorem own_set {W : World} {B e g n cap : Nat} {xs : List Value} (h : W.ownsRow B e k (.slice (some ⟨g, 0, none⟩) n cap) n xs) (o : Nat) (c : Value) : (W.setCell ⟨g, o, none⟩ c).ownsRow B e k (.slice (some ⟨g, 0, none⟩) n cap) n (xs.set o c) := by
  rcases h with ⟨h1, h2⟩
  rcases h2 with ⟨e1, e2⟩ | ⟨g', cap', cur, e1, g1, g2, g3, g4, g5, g6⟩
  · cases e1
  · cases e1
    refine ⟨by simpa using h1, Or.inr ⟨g, cap, _, rfl, g1, heap_setCell_same _ _ o _ _ c g2, g3, g4, by simpa using g5, ?_⟩⟩
    rw [← g6]
    simp [List.take_set]

theorem own_sets {B e g n cap : Nat} : ∀ (cs : List Value) (W : World) (xs : List Value) (o : Nat), W.ownsRow B e k (.slice (some ⟨g, 0, none⟩) n cap) n xs → (W.setCells g o cs).ownsRow B e k (.slice (some ⟨g, 0, none⟩) n cap) n (setAt xs o cs)
  | [], _, _, _, h => h
  | c :: cs, W, xs, o, h => own_sets cs (W.setCell ⟨g, o, none⟩ c) (xs.set o c) (o + 1) (own_set h o c)

/-- An element of a row is stored. -/
theorem own_put (hf : ∀ x, (f x).length = k) {W : World} {B e g n cap : Nat} {L : List α} (h : W.ownsRow B e k (.slice (some ⟨g, 0, none⟩) n cap) n (flat f L)) {j : Nat} (hj : j < L.length) (x : α) : (W.setCells g (j * k) (f x)).ownsRow B e k (.slice (some ⟨g, 0, none⟩) n cap) n (flat f (L.set j x)) := by
  rw [← flat_set hf x L j hj]
  exact own_sets _ _ _ _ h

theorem heap_sets_at {b e : Nat} : ∀ (vs : List Value) (o : Nat) (w : World) (cur : Array Value), w.heap[b]? = some (.cells cur e (0, 0)) → ∃ cur', (w.setCells b o vs).heap[b]? = some (.cells cur' e (0, 0)) ∧ cur'.size = cur.size ∧ cur'.toList.take o = cur.toList.take o
  | [], _, _, cur, h => ⟨cur, h, rfl, rfl⟩
  | v :: r, o, w, cur, h => by
    have h1 := heap_setCell_same _ _ o _ _ v h
    obtain ⟨cur', g1, g2, g3⟩ := heap_sets_at r (o + 1) (w.setCell ⟨b, o, none⟩ v) _ h1
    refine ⟨cur', g1, by rw [g2]; simp, ?_⟩
    have g4 := congrArg (List.take o) g3
    rw [List.take_take, List.take_take, Nat.min_eq_left (by omega)] at g4
    rw [g4]
    simp [List.take_set_of_le]

theorem heap_sets_ne {b q : Nat} (hq : q ≠ b) : ∀ (vs : List Value) (o : Nat) (w : World), (w.setCells b o vs).heap[q]? = w.heap[q]?
  | [], _, _ => rfl
  | v :: r, o, w => by
    show ((w.setCell ⟨b, o, none⟩ v).setCells b (o + 1) r).heap[q]? = _
    rw [heap_sets_ne hq r (o + 1), heap_setCell_other _ _ _ _ hq]

theorem size_sets {b : Nat} : ∀ (vs : List Value) (o : Nat) (w : World), (w.setCells b o vs).heap.size = w.heap.size
  | [], _, _ => rfl
  | v :: r, o, w => by
    show ((w.setCell ⟨b, o, none⟩ v).setCells b (o + 1) r).heap.size = _
    rw [size_sets r (o + 1)]
    simp

theorem below_sets {B b : Nat} {a : World} (hb : B ≤ b) : ∀ (vs : List Value) (o : Nat) (w : World), Below B a w → Below B a (w.setCells b o vs)
  | [], _, _, h => h
  | v :: r, o, _, h => below_sets hb r (o + 1) _ (h.setCell hb v)

/-- Behind the m-th all is stored over: its first m still lie there. -/
theorem own_cut (hf : ∀ x, (f x).length = k) {W : World} {B e g n c m : Nat} {L : List α} (h : W.ownsRow B e k (.slice (some ⟨g, 0, none⟩) n c) n (flat f L)) (hm : m ≤ n) (vs : List Value) : (W.setCells g (m * k) vs).ownsRow B e k (.slice (some ⟨g, 0, none⟩) m c) m (flat f (L.take m)) := by
  rcases h with ⟨h1, h2⟩
  rcases h2 with ⟨e1, e2⟩ | ⟨g', cap, cur, e1, g1, g2, g3, g4, g5, g6⟩
  · cases e1
  · cases e1
    obtain ⟨cur', k1, k2, k3⟩ := heap_sets_at vs (m * k) W cur g2
    rw [flat_take hf L m]
    refine ⟨by rw [List.length_take, h1]; exact Nat.min_eq_left (Nat.mul_le_mul_right _ hm), Or.inr ⟨g, _, cur', rfl, g1, k1, by omega, g4, by omega, ?_⟩⟩
    rw [k3, ← g6, List.take_take, Nat.min_eq_left (Nat.mul_le_mul_right _ hm)]
end

/-- A new block, read. -/
theorem src_new (W : World) (vs : List Value) (T : TypeId) (m c : Nat) {q : Nat} (hq : q = W.heap.size) : Src (W.alloc (.cells vs.toArray T)) (some ⟨q, 0, none⟩) m c vs := by
  subst hq
  refine Or.inr ⟨_, rfl, fun j u hu => ?_⟩
  rw [add_none, Nat.zero_add, cell_of_row _ _ _ _ _ _ (heap_new W (.cells vs.toArray T))]
  simpa using hu

theorem src_keep {W W' : World} {a : Option Addr} {n c : Nat} {xs : List Value} (h : Src W a n c xs) (hb : ∀ g o, a = some ⟨g, o, none⟩ → W'.heap[g]? = W.heap[g]?) (hp : ∀ ad, a = some ad → ad.spot = none) : Src W' a n c xs := by
  rcases h with h | ⟨ad, rfl, hc⟩
  · exact Or.inl h
  · refine Or.inr ⟨ad, rfl, fun j u hu => ?_⟩
    obtain ⟨g, o, sp⟩ := ad
    have := hp _ rfl
    simp only at this
    subst this
    rw [add_none, World.cell?_of_block (w := W) (w' := W') (a := ⟨g, o + j, none⟩) (hb g o rfl), ← add_none]
    exact hc j u hu

theorem append_src {P : Program} {ops : Array Oper} {rest : List Oper} {o : Oper} {a : Act} {Q : Exit → Act → World → Prop} {W1 : World} {t e : TypeId} {z : Value} {size bytes : Nat} (ht : P.underlying t = some (.slice e)) (hinfo : (P.info? e).map (fun i => (i.zero, i.size, i.bytes)) = some (some z, size, bytes)) (hzs : z.cells.size = size) (hsz : 0 < size) (hby : bytes ≤ 1000)
    (hgd : o.guard = none) (s x : Operand) (ho : o.op = .call { callee := .builtin .append, args := #[s, x], argTypes := #[t, t] })
    (base : Nat) (hbase : base ≤ W1.heap.size) (v : Value) (n : Nat) (xs : List Value) (hs : a.eval s = v) (h : W1.ownsRow base e size v n xs) (b : Option Addr) (m cap : Nat) (news : List Value) (hx : a.eval x = .slice b m cap) (hm : Src W1 b m cap news)
    (hl : news.length = m * size) (h1 : ∀ u ∈ news, u.oneCell' = true) (hn : n + m ≤ 1000000)
    (hK : ∀ v' W', W'.ownsRow base e size v' (n + m) (xs ++ news) → W1.grownBy W' v.ownBlock → (v'.ownBlock = v.ownBlock ∨ v'.ownBlock = some W1.heap.size) → wpList P ops Q rest (a.put o.dst v') W') : wpList P ops Q (o :: rest) a W1 := by
  obtain ⟨i, hi, hz⟩ := Option.map_eq_some_iff.1 hinfo
  simp only [Prod.mk.injEq] at hz
  obtain ⟨h3, h4, h5⟩ := hz
  rcases hm with ⟨rfl, rfl, rfl, rfl⟩ | ⟨ad, rfl, hc⟩
  · exact wpList_append_own_none hgd s x t ho base e i size ht hi v n xs hs h hx (hK v W1 (by rw [List.append_nil]; exact h) ⟨rfl, rfl, rfl, Nat.le_refl _, fun _ _ _ => rfl⟩ (Or.inl rfl))
  · refine wpList_append_own_at (P := P) W1 hgd s x t ho base e i z size bytes ht hi h3 h4 h5 hzs hsz v n xs hs h ad m cap news hx hl hc h1 (by unfold maxLen; omega) ?_ hbase fun v' W' g1 g2 _ g4 => hK v' W' g1 g2 g4
    exact Nat.le_trans (Nat.mul_le_mul hn hby) (by omega)

/-- append as a step of a region that draws, where what is put on may be no slice at all. -/
theorem step_appS {ops : Array Oper} {o : Oper} {a : Act} {K : Act → World → Prop} {Q : Exit → Act → World → Prop} {E : Prop} {W1 : World} {t e : TypeId} {z : Value} {size bytes : Nat} (ht : Try.prog.underlying t = some (.slice e)) (hinfo : (Try.prog.info? e).map (fun i => (i.zero, i.size, i.bytes)) = some (some z, size, bytes)) (hzs : z.cells.size = size) (hsz : 0 < size) (hby : bytes ≤ 1000)
    (hgd : o.guard = none) (s x : Operand) (ho : o.op = .call { callee := .builtin .append, args := #[s, x], argTypes := #[t, t] })
    (base : Nat) (hbase : base ≤ W1.heap.size) (v : Value) (n : Nat) (xs : List Value) (hs : a.eval s = v) (h : W1.ownsRow base e size v n xs) (b : Option Addr) (m cap : Nat) (news : List Value) (hx : a.eval x = .slice b m cap) (hm : Src W1 b m cap news)
    (hl : news.length = m * size) (h1 : ∀ u ∈ news, u.oneCell' = true) (hn : n + m ≤ 1000000)
    (hK : ∀ v' W', W'.ownsRow base e size v' (n + m) (xs ++ news) → W1.grownBy W' v.ownBlock → K (a.put o.dst v') W') :
    if Region.wanted o (yielded ops a.tmps) = true then Oper.wp Try.prog o a W1 K Q else E := by
  have hw : Region.wanted o (yielded ops a.tmps) = true := by simp [Region.wanted, hgd]
  rw [if_pos hw]
  obtain ⟨i, hi, hz⟩ := Option.map_eq_some_iff.1 hinfo
  simp only [Prod.mk.injEq] at hz
  obtain ⟨h3, h4, h5⟩ := hz
  rcases hm with ⟨rfl, rfl, rfl, rfl⟩ | ⟨ad, rfl, hc⟩
  · have hrun := run_append_owned_none (P := Try.prog) (w := W1) base t o.type e i size ht hi v n xs h
    unfold Oper.wp
    simp [execOp, ho, resolve, invoke, builtin, hs, hx, hrun, Result.andThen]
    exact hK v W1 (by simpa using h) ⟨rfl, rfl, rfl, Nat.le_refl _, fun _ _ _ => rfl⟩
  · exact wp_append_own (P := Try.prog) W1 s x t ho base e i z size bytes ht hi h3 h4 h5 hzs hsz v n xs hs h ad m cap news hx hl hc h1 (by unfold maxLen; omega) (Nat.le_trans (Nat.mul_le_mul hn hby) (by omega)) hbase fun v' W' hown hg _ => hK v' W' hown hg
end Go.Proofs.Ytlckoenkogaibaa.Rw
