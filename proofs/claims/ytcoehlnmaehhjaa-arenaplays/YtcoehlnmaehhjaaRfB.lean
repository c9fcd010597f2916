/-
  How the two arenas go on side by side. Of no program but for what they are.
-/
import Derived.Test.YtcoehlnmaehhjaaRfA
namespace Go.Proofs.Ytcoehlnmaehhjaa
open Go.RowKit

def RAbs.next (r : RAbs) : Nat := match r.fr.getLast? with | none => r.nx | some n => n
def RAbs.alloc (r : RAbs) : RAbs := { r with L := r.L ++ [(r.next, zeroP)], fr := r.fr.dropLast, nx := if r.fr = [] then r.nx + 1 else r.nx }
def RAbs.drop (r : RAbs) (j n : Nat) : RAbs := { r with L := r.L.eraseIdx j, fr := r.fr ++ [n] }
def RAbs.lay (r : RAbs) (j n : Nat) (c : List UInt8) : RAbs := { r with L := r.L.set j (n, c) }

theorem rel_new (q : Nat) : Rel ⟨[], [], q⟩ ⟨[], [], 1, q⟩ := ⟨rfl, rfl, rfl, rfl, by simp, List.nodup_nil⟩

theorem rel_limit {a : Abs} {r : RAbs} (h : Rel a r) (n : Nat) : Rel { a with q := n } { r with q := n } := ⟨rfl, h.nx, h.fr, h.len, h.mem, h.nodup⟩

theorem rel_next {a : Abs} {r : RAbs} (h : Rel a r) : r.next = a.next := by
  unfold RAbs.next Abs.next
  rw [h.fr]
  cases a.fr.getLast? with
  | none => exact h.nx
  | some n => rfl

theorem alloc_pg (a : Abs) : a.alloc.pg = (if a.fr = [] then a.pg ++ [some zeroP] else a.pg.set (a.next - 1) (some zeroP)) ∧ a.alloc.fr = a.fr.dropLast := by
  unfold Abs.alloc Abs.lay Abs.take Abs.next
  cases hg : a.fr.getLast? with
  | none =>
    have hf : a.fr = [] := by simpa using hg
    refine ⟨?_, by simp [hf]⟩
    rw [if_pos hf]
    show (a.pg ++ [none]).set (a.pg.length + 1 - 1) (some zeroP) = _
    rw [Nat.add_sub_cancel, List.set_append_right _ _ (Nat.le_refl _)]; simp
  | some n =>
    have hf : a.fr ≠ [] := by intro e; rw [e] at hg; simp at hg
    exact ⟨by rw [if_neg hf], rfl⟩

theorem rel_alloc {a : Abs} {r : RAbs} (h : Rel a r) (ho : a.Ok) : Rel a.alloc r.alloc := by
  obtain ⟨e1, e2⟩ := alloc_pg a
  obtain ⟨t1, _⟩ := Abs.take_pg ho
  obtain ⟨u1, u2, _⟩ := Abs.alloc_used ho
  have hpos := Abs.next_pos ho
  have hnx := rel_next h
  have hnone : a.pg[a.next - 1]? = none ∨ a.pg[a.next - 1]? = some none := by
    unfold Abs.take at t1
    cases hg : a.fr.getLast? with
    | none => left; unfold Abs.next; rw [hg]; simp
    | some n => right; rw [hg] at t1; exact t1
  have hnew : ∀ c, (a.next, c) ∉ r.L := fun c hc => by
    have := ((h.mem _ _).1 hc).2
    rcases hnone with e | e <;> (rw [e] at this; cases this)
  refine ⟨by rw [u2]; exact h.q, ?_, ?_, ?_, fun n c => ?_, ?_⟩
  · show (if r.fr = [] then r.nx + 1 else r.nx) = _
    rw [e1, h.fr, h.nx]
    by_cases hf : a.fr = []
    · rw [if_pos hf, if_pos hf]; simp
    · rw [if_neg hf, if_neg hf]; simp
  · show r.fr.dropLast = _
    rw [e2, h.fr]
  · show (r.L ++ [(r.next, zeroP)]).length = _
    rw [List.length_append, h.len, u1]; rfl
  · show (n, c) ∈ r.L ++ [(r.next, zeroP)] ↔ _
    rw [List.mem_append, List.mem_singleton, hnx, h.mem, e1]
    by_cases hf : a.fr = []
    · rw [if_pos hf]
      have hn : a.next = a.pg.length + 1 := by unfold Abs.next; rw [hf]; rfl
      rw [hn]
      constructor
      · rintro (⟨x1, x2⟩ | x)
        · refine ⟨x1, ?_⟩
          rw [List.getElem?_append_left (List.getElem?_eq_some_iff.1 x2).1]
          exact x2
        · cases x
          exact ⟨by omega, by simp⟩
      · rintro ⟨x1, x2⟩
        by_cases hlt : n - 1 < a.pg.length
        · rw [List.getElem?_append_left hlt] at x2
          exact Or.inl ⟨x1, x2⟩
        · rw [List.getElem?_append_right (by omega)] at x2
          have : n - 1 - a.pg.length = 0 := by
            have := (List.getElem?_eq_some_iff.1 x2).1
            simpa using this
          rw [this] at x2
          simp at x2
          right
          rw [← x2]
          congr 1
          omega
    · rw [if_neg hf]
      have hlt : a.next - 1 < a.pg.length := by
        unfold Abs.take at t1
        cases hg : a.fr.getLast? with
        | none => exact absurd (by simpa using hg) hf
        | some n => rw [hg] at t1; exact (List.getElem?_eq_some_iff.1 t1).1
      constructor
      · rintro (⟨x1, x2⟩ | x)
        · refine ⟨x1, ?_⟩
          rw [List.getElem?_set_ne]
          · exact x2
          · intro e
            rcases hnone with e' | e' <;> (rw [e, x2] at e'; cases e')
        · cases x
          exact ⟨hpos, by rw [List.getElem?_set_self hlt]⟩
      · rintro ⟨x1, x2⟩
        by_cases e : n = a.next
        · subst e
          rw [List.getElem?_set_self hlt] at x2
          cases x2
          exact Or.inr rfl
        · rw [List.getElem?_set_ne (by omega)] at x2
          exact Or.inl ⟨x1, x2⟩
  · show ((r.L ++ [(r.next, zeroP)]).map Prod.fst).Nodup
    rw [List.map_append, List.nodup_append]
    refine ⟨h.nodup, by simp, ?_⟩
    rintro x hx y hy e
    simp at hy
    obtain ⟨⟨n, c⟩, hm, rfl⟩ := List.mem_map.1 hx
    have e' : n = a.next := by rw [← hnx]; exact e.trans hy
    subst e'
    exact hnew c hm

theorem rel_drop {a : Abs} {r : RAbs} (h : Rel a r) {j m : Nat} {c : List UInt8} (hj : r.L[j]? = some (m, c)) : Rel (a.free m) (r.drop j m) := by
  obtain ⟨h1, h2⟩ := (h.mem m c).1 (List.mem_of_getElem? hj)
  have hlt := (List.getElem?_eq_some_iff.1 h2).1
  have hjl := (List.getElem?_eq_some_iff.1 hj).1
  refine ⟨h.q, ?_, ?_, ?_, fun n d => ?_, ?_⟩
  · show r.nx = (a.pg.set (m - 1) none).length + 1
    rw [List.length_set]; exact h.nx
  · show r.fr ++ [m] = a.fr ++ [m]
    rw [h.fr]
  · show (r.L.eraseIdx j).length = (a.pg.set (m - 1) none).length - (a.fr ++ [m]).length
    have := h.len
    unfold Abs.used at this
    rw [List.length_eraseIdx_of_lt hjl, List.length_set, List.length_append, List.length_singleton]
    omega
  · show (n, d) ∈ r.L.eraseIdx j ↔ 1 ≤ n ∧ (a.pg.set (m - 1) none)[n - 1]? = some (some d)
    constructor
    · intro hx
      have hx' := List.mem_of_mem_eraseIdx hx
      obtain ⟨x1, x2⟩ := (h.mem n d).1 hx'
      refine ⟨x1, ?_⟩
      rw [List.getElem?_set_ne]
      · exact x2
      · intro e
        have e' : n = m := by omega
        subst e'
        obtain ⟨i, hi⟩ := List.getElem?_of_mem hx
        rw [List.getElem?_eraseIdx] at hi
        split at hi
        · rename_i hij
          have := nodup_at h.nodup hi hj rfl
          omega
        · rename_i hij
          have := nodup_at h.nodup hi hj rfl
          omega
    · rintro ⟨x1, x2⟩
      have hne : n ≠ m := fun e => by
        subst e
        rw [List.getElem?_set_self hlt] at x2
        cases x2
      rw [List.getElem?_set_ne (by omega)] at x2
      have hx := (h.mem n d).2 ⟨x1, x2⟩
      obtain ⟨i, hi⟩ := List.getElem?_of_mem hx
      have hij : i ≠ j := fun e => by
        subst e
        rw [hj] at hi
        cases hi
        exact hne rfl
      refine List.mem_of_getElem? (i := if i < j then i else i - 1) ?_
      rw [List.getElem?_eraseIdx]
      by_cases hlt' : i < j
      · rw [if_pos hlt', if_pos hlt']; exact hi
      · rw [if_neg hlt', if_neg (by omega), show i - 1 + 1 = i by omega]; exact hi
  · show ((r.L.eraseIdx j).map Prod.fst).Nodup
    exact h.nodup.sublist ((List.eraseIdx_sublist _ _).map _)

theorem rel_lay {a : Abs} {r : RAbs} (h : Rel a r) {j m : Nat} {c d : List UInt8} (hj : r.L[j]? = some (m, c)) : Rel (a.lay m (some d)) (r.lay j m d) := by
  obtain ⟨h1, h2⟩ := (h.mem m c).1 (List.mem_of_getElem? hj)
  have hlt := (List.getElem?_eq_some_iff.1 h2).1
  have hjl := (List.getElem?_eq_some_iff.1 hj).1
  obtain ⟨u1, u2⟩ := Abs.lay_used a m (some d)
  refine ⟨by rw [u2]; exact h.q, ?_, h.fr, ?_, fun n e => ?_, ?_⟩
  · show r.nx = (a.pg.set (m - 1) (some d)).length + 1
    rw [List.length_set]; exact h.nx
  · show (r.L.set j (m, d)).length = _
    rw [List.length_set, u1]; exact h.len
  · show (n, e) ∈ r.L.set j (m, d) ↔ 1 ≤ n ∧ (a.pg.set (m - 1) (some d))[n - 1]? = some (some e)
    constructor
    · intro hx
      obtain ⟨i, hi⟩ := List.getElem?_of_mem hx
      by_cases hij : i = j
      · subst hij
        rw [List.getElem?_set_self hjl] at hi
        cases hi
        exact ⟨h1, by rw [List.getElem?_set_self hlt]⟩
      · rw [List.getElem?_set_ne (fun x => hij x.symm)] at hi
        obtain ⟨x1, x2⟩ := (h.mem n e).1 (List.mem_of_getElem? hi)
        refine ⟨x1, ?_⟩
        rw [List.getElem?_set_ne]
        · exact x2
        · intro y
          have e' : n = m := by omega
          subst e'
          exact hij (nodup_at h.nodup hi hj rfl)
    · rintro ⟨x1, x2⟩
      by_cases hne : n = m
      · subst hne
        rw [List.getElem?_set_self hlt] at x2
        cases x2
        exact List.mem_of_getElem? (i := j) (by rw [List.getElem?_set_self hjl])
      · rw [List.getElem?_set_ne (by omega)] at x2
        obtain ⟨i, hi⟩ := List.getElem?_of_mem ((h.mem n e).2 ⟨x1, x2⟩)
        have hij : j ≠ i := fun y => by
          subst y
          rw [hj] at hi
          cases hi
          exact hne rfl
        exact List.mem_of_getElem? (i := i) (by rw [List.getElem?_set_ne hij]; exact hi)
  · show ((r.L.set j (m, d)).map Prod.fst).Nodup
    rw [List.map_set]
    have : (r.L.map Prod.fst).set j m = r.L.map Prod.fst := by
      apply List.ext_getElem?
      intro i
      by_cases hij : j = i
      · subst hij
        rw [List.getElem?_set_self (by simpa using hjl), List.getElem?_map, hj]; rfl
      · rw [List.getElem?_set_ne hij]
    rw [this]
    exact h.nodup

/-- The numbers in use are alike. -/
theorem rel_pages {a : Abs} {r : RAbs} (h : Rel a r) (i : Nat) : (∃ x ∈ r.L, x.1 = i + 1) ↔ ((a.pg[i]?).join).isSome = true := by
  constructor
  · rintro ⟨⟨n, c⟩, hx, e⟩
    obtain ⟨_, h2⟩ := (h.mem n c).1 hx
    have e' : n = i + 1 := e
    rw [e', Nat.add_sub_cancel] at h2
    rw [h2]; rfl
  · intro hs
    cases hx : a.pg[i]? with
    | none => rw [hx] at hs; simp at hs
    | some y =>
      cases y with
      | none => rw [hx] at hs; simp at hs
      | some c => exact ⟨(i + 1, c), (h.mem _ _).2 ⟨by omega, by rw [Nat.add_sub_cancel]; exact hx⟩, rfl⟩
end Go.Proofs.Ytcoehlnmaehhjaa
