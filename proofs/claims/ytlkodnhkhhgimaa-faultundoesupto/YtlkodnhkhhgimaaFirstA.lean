/-
  FaultFirst: the functions that it hands in, and the plain laws of its loop.
-/
import Derived.Test.YtlkodnhkhhgimaaFaultF
import Derived.Test.YtlkodnhkhhgimaaFaultD
import Derived.OneCell
namespace Go.Proofs.Ytlkodnhkhhgimaa
open Go.RowKit

/-- A variable of its own: a block of one int. -/
abbrev box (n : Int) : Obj := .cells #[.int .i64 n] 3 (0, 0)

theorem calls_f1 (args : Array Value) (w : World) : (callFunc 21 args).run Try.prog w = .ok (.enter 21 args) w := by simp [go_sem]

theorem f1_ok (p q r : Nat) (i : Int) (n : Nat) (hn : n ≤ 1000000) (w : World) (hp : w.heap[p]? = some (box n)) (hq : w.heap[q]? = some (box 0)) (hr : w.heap[r]? = some (box i)) (hpq : p ≠ q) (hpr : p ≠ r) :
    Calls Try.prog 21 #[.pointer (some ⟨p, 0, none⟩), .pointer (some ⟨q, 0, none⟩), .pointer (some ⟨r, 0, none⟩)] w fun e w' => e = .returned (.tuple #[]) ∧ w' = w.setCell ⟨p, 0, none⟩ (.int .i64 (n + 1)) := by
  have cp := cell_of_one hp
  have fp := free_of_one hp
  have cq := cell_of_one hq
  have cr := cell_of_one hr
  have e1 : ∀ v, (w.setCell ⟨p, 0, none⟩ v).cell? ⟨q, 0, none⟩ = some (.int .i64 0) := fun v => by rw [World.cell?_of_block (Below.heap_setCell w _ _ q (Ne.symm hpq))]; exact cq
  have e2 : ∀ v, (w.setCell ⟨p, 0, none⟩ v).cell? ⟨r, 0, none⟩ = some (.int .i64 i) := fun v => by rw [World.cell?_of_block (Below.heap_setCell w _ _ r (Ne.symm hpr))]; exact cr
  clear hp hq hr
  go_enter Try.func21, Try.ntmps21
  go_wp2_with (go_at_call 17; refine (stop_ok _ _).mono ?_; rintro e w' ⟨rfl, rfl⟩)
  go_end0
  exact ⟨rfl, rfl⟩

theorem f1_no (p q r : Nat) (c i : Int) (hc : (c != 0) = true) (n : Nat) (hn : n ≤ 1000000) (w : World) (hp : w.heap[p]? = some (box n)) (hq : w.heap[q]? = some (box c)) (hr : w.heap[r]? = some (box i)) (hpq : p ≠ q) (hpr : p ≠ r) :
    Calls Try.prog 21 #[.pointer (some ⟨p, 0, none⟩), .pointer (some ⟨q, 0, none⟩), .pointer (some ⟨r, 0, none⟩)] w fun e w' => e = .panicked (stopped c i) ∧ w' = w.setCell ⟨p, 0, none⟩ (.int .i64 (n + 1)) := by
  have cp := cell_of_one hp
  have fp := free_of_one hp
  have cq := cell_of_one hq
  have cr := cell_of_one hr
  have e1 : ∀ v, (w.setCell ⟨p, 0, none⟩ v).cell? ⟨q, 0, none⟩ = some (.int .i64 c) := fun v => by rw [World.cell?_of_block (Below.heap_setCell w _ _ q (Ne.symm hpq))]; exact cq
  have e2 : ∀ v, (w.setCell ⟨p, 0, none⟩ v).cell? ⟨r, 0, none⟩ = some (.int .i64 i) := fun v => by rw [World.cell?_of_block (Below.heap_setCell w _ _ r (Ne.symm hpr))]; exact cr
  clear hp hq hr
  go_enter Try.func21, Try.ntmps21
  go_wp2_with (go_at_call 17; refine (stop_no _ _ hc _).mono ?_; rintro e w' ⟨rfl, rfl⟩)
  exact ⟨rfl, rfl, rfl⟩

/-- The state of the functions: how often they were called. -/
def cntSt (p : Nat) : St Nat where
  own := fun _ k => k = p
  P := fun n w => w.heap[p]? = some (box n)
  keep := fun s w w' h hk => by rw [hk p rfl]; exact h
  lt := fun s w k h e => e ▸ lt_of_block h

theorem cnt_moves (p : Nat) (n m : Nat) (w : World) (hp : w.heap[p]? = some (box n)) : (cntSt p).P m (w.setCell ⟨p, 0, none⟩ (.int .i64 m)) ∧ Moves (cntSt p) n m w (w.setCell ⟨p, 0, none⟩ (.int .i64 m)) :=
  ⟨one_setCell hp, (Only.refl (· = p) w).setCell (Or.inr rfl) _, fun _ h => Or.inl h⟩

/-- The first of the first k numbers that isn't 0, or -1. -/
def firstNZ (zs : List Int) : Nat → Int
  | 0 => -1
  | k + 1 => if firstNZ zs k < 0 ∧ zs.getD k 0 ≠ 0 then k else firstNZ zs k

theorem firstNZ_lo (zs : List Int) (k : Nat) : -1 ≤ firstNZ zs k ∧ firstNZ zs k < k := by
  induction k with
  | zero => simp [firstNZ]
  | succ k ih => simp only [firstNZ]; split <;> omega

theorem firstNZ_neg (zs : List Int) (k : Nat) : firstNZ zs k < 0 → firstNZ zs k = -1 ∧ ∀ j, j < k → zs.getD j 0 = 0 := by
  induction k with
  | zero => intro _; exact ⟨rfl, fun j h => by omega⟩
  | succ k ih =>
    simp only [firstNZ]
    split
    · intro h; omega
    · rename_i hn
      intro h
      obtain ⟨h1, h2⟩ := ih h
      refine ⟨h1, fun j hj => ?_⟩
      by_cases e : j = k
      · subst e
        by_cases hz : zs.getD j 0 = 0
        · exact hz
        · exact absurd ⟨h, hz⟩ hn
      · exact h2 j (by omega)

theorem firstNZ_pos (zs : List Int) (k : Nat) : 0 ≤ firstNZ zs k → ∃ f : Nat, firstNZ zs k = f ∧ f < k ∧ zs.getD f 0 ≠ 0 ∧ ∀ j, j < f → zs.getD j 0 = 0 := by
  induction k with
  | zero => intro h; simp [firstNZ] at h
  | succ k ih =>
    simp only [firstNZ]
    split
    · rename_i h
      intro _
      exact ⟨k, rfl, by omega, h.2, (firstNZ_neg zs k h.1).2⟩
    · intro h
      obtain ⟨f, h1, h2, h3, h4⟩ := ih h
      exact ⟨f, h1, by omega, h3, h4⟩

/-- The function value of round j. -/
abbrev fnV (p : Nat) (cb ib : Nat → Nat) (j : Nat) : Value := .func (.func 21) #[] #[.pointer (some ⟨p, 0, none⟩), .pointer (some ⟨cb j, 0, none⟩), .pointer (some ⟨ib j, 0, none⟩)]

/-- What holds at the head of round k. -/
structure Rnd (B p : Nat) (zs : List Int) (w : World) (v : Value) (k : Nat) (cb ib : Nat → Nat) (wr : World) : Prop where
  row : wr.ownsRow B 1 1 v k ((List.range k).map (fnV p cb ib))
  cnt : wr.heap[p]? = some (box 0)
  boxes : ∀ j, j < k → wr.heap[cb j]? = some (box (zs.getD j 0)) ∧ wr.heap[ib j]? = some (box j) ∧ cb j ≠ p ∧ ib j ≠ p
  below : Below B w wr
  size : B ≤ wr.heap.size

theorem Rnd.other {B p : Nat} {zs : List Int} {w : World} {v : Value} {k : Nat} {cb ib : Nat → Nat} {wr : World} (h : Rnd B p zs w v k cb ib wr) {b : Nat} {n : Int} (hb : wr.heap[b]? = some (box n)) : some b ≠ v.ownBlock := by
  intro e
  rcases h.row.2 with ⟨rfl, -⟩ | ⟨g, cap, cur, rfl, -, hg, -⟩
  · simp [Value.ownBlock] at e
  · simp [Value.ownBlock] at e
    subst e
    rw [hg] at hb
    simp [box] at hb

/-- The world ahead of round k's append. -/
abbrev aheadW (wr : World) (p k : Nat) (c : Int) : World :=
  ((wr.alloc (.cells #[.int .i64 k] 3)).alloc (.cells #[.int .i64 c] 3)).alloc (.cells #[.func (.func 21) #[] #[.pointer (some ⟨p, 0, none⟩), .pointer (some ⟨wr.heap.size + 1, 0, none⟩), .pointer (some ⟨wr.heap.size, 0, none⟩)]] 1)

theorem heap_ahead (wr : World) (p k : Nat) (c : Int) : (∀ b, b < wr.heap.size → (aheadW wr p k c).heap[b]? = wr.heap[b]?) ∧ (aheadW wr p k c).heap[wr.heap.size]? = some (box k) ∧ (aheadW wr p k c).heap[wr.heap.size + 1]? = some (box c) := by
  refine ⟨fun b hb => ?_, ?_, ?_⟩
  · rw [Below.heap_alloc _ _ _ (by simp; omega), Below.heap_alloc _ _ _ (by simp; omega), Below.heap_alloc _ _ _ hb]
  · rw [Below.heap_alloc _ _ _ (by simp; omega), Below.heap_alloc _ _ _ (by simp)]
    exact heap_alloc_new wr _
  · rw [Below.heap_alloc _ _ _ (by simp)]
    have := heap_alloc_new (wr.alloc (.cells #[.int .i64 k] 3)) (.cells #[.int .i64 c] 3)
    simpa using this

theorem Rnd.next {B p : Nat} {zs : List Int} {w : World} {v v' : Value} {k : Nat} {cb ib : Nat → Nat} {wr w1 : World} (h : Rnd B p zs w v k cb ib wr)
    (hown : w1.ownsRow B 1 1 v' (k + 1) ((List.range k).map (fnV p cb ib) ++ [.func (.func 21) #[] #[.pointer (some ⟨p, 0, none⟩), .pointer (some ⟨wr.heap.size + 1, 0, none⟩), .pointer (some ⟨wr.heap.size, 0, none⟩)]]))
    (hg : (aheadW wr p k (zs.getD k 0)).grownBy w1 v.ownBlock) :
    ∃ cb' ib', Rnd B p zs w v' (k + 1) cb' ib' w1 := by
  obtain ⟨a1, a2, a3⟩ := heap_ahead wr p k (zs.getD k 0)
  have hp := lt_of_block h.cnt
  have keep : ∀ b n, wr.heap[b]? = some (box n) → w1.heap[b]? = some (box n) := fun b n hb => by
    have hl := lt_of_block hb
    rw [hg.block b (by simp; omega) (h.other hb), a1 b hl]; exact hb
  have ownlt : ∀ b, wr.heap.size ≤ b → some b ≠ v.ownBlock := fun b hb e => by
    have := (h.row.lt b e.symm).2
    omega
  refine ⟨fun j => if j = k then wr.heap.size + 1 else cb j, fun j => if j = k then wr.heap.size else ib j, ?_, keep _ _ h.cnt, fun j hj => ?_, ?_, ?_⟩
  · have e : (List.range (k + 1)).map (fnV p (fun j => if j = k then wr.heap.size + 1 else cb j) (fun j => if j = k then wr.heap.size else ib j)) =
        (List.range k).map (fnV p cb ib) ++ [.func (.func 21) #[] #[.pointer (some ⟨p, 0, none⟩), .pointer (some ⟨wr.heap.size + 1, 0, none⟩), .pointer (some ⟨wr.heap.size, 0, none⟩)]] := by
      rw [List.range_succ, List.map_append]
      congr 1
      · apply List.map_congr_left
        intro j hj
        have hj' : j ≠ k := by have := List.mem_range.1 hj; omega
        simp [fnV, hj']
      · simp [fnV]
    rw [e]
    exact hown
  · by_cases e : j = k
    · subst e
      simp only [if_true]
      refine ⟨?_, ?_, by omega, by omega⟩
      · rw [hg.block _ (by simp) (ownlt _ (by omega)), a3]
      · rw [hg.block _ (by simp; omega) (ownlt _ (by omega)), a2]
    · simp only [if_neg e]
      obtain ⟨b1, b2, b3, b4⟩ := h.boxes j (by omega)
      exact ⟨keep _ _ b1, keep _ _ b2, b3, b4⟩
  · refine h.below.trans ?_
    have hz := h.size
    refine Below.trans ((((Below.refl B wr).alloc hz _).alloc (by simp; omega) _).alloc (by simp; omega) _) ((Below.refl B _).grown hg (by simp; omega) fun b e => (h.row.lt b e).1)
  · have hz := h.size
    have hh := hg.size
    simp at hh
    omega

theorem Rnd.next' {B p : Nat} {zs : List Int} {w : World} {v v' : Value} {k : Nat} {cb ib : Nat → Nat} {wr w1 : World} (h : Rnd B p zs w v k cb ib wr) {c : Int} (hc : zs.getD k 0 = c)
    (hown : w1.ownsRow B 1 1 v' (k + 1) ((List.range k).map (fnV p cb ib) ++ [.func (.func 21) #[] #[.pointer (some ⟨p, 0, none⟩), .pointer (some ⟨wr.heap.size + 1, 0, none⟩), .pointer (some ⟨wr.heap.size, 0, none⟩)]]))
    (hg : (aheadW wr p k c).grownBy w1 v.ownBlock) :
    ∃ cb' ib', Rnd B p zs w v' (k + 1) cb' ib' w1 := by
  subst hc
  exact h.next hown hg

theorem firstNZ_hit {zs : List Int} {k : Nat} {c : Int} (hc : zs.getD k 0 = c) (h : firstNZ zs k < 0) (h2 : (c != 0) = true) : firstNZ zs (k + 1) = k := by
  subst hc
  simp only [firstNZ]
  rw [if_pos ⟨h, by simpa using h2⟩]

theorem firstNZ_miss {zs : List Int} {k : Nat} {c : Int} (hc : zs.getD k 0 = c) (h2 : (c != 0) = false) : firstNZ zs (k + 1) = firstNZ zs k := by
  subst hc
  simp only [firstNZ]
  rw [if_neg (by rintro ⟨-, h'⟩; simp at h2; exact h' h2)]

theorem firstNZ_past {zs : List Int} {k : Nat} (h : ¬ firstNZ zs k < 0) : firstNZ zs (k + 1) = firstNZ zs k := by
  simp only [firstNZ]
  rw [if_neg (by rintro ⟨h', -⟩; exact h h')]

end Go.Proofs.Ytlkodnhkhhgimaa
