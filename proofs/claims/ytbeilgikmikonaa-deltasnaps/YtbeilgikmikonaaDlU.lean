/-
  Delta: a state copied by a range over its map.
-/
import Derived.Maps.RangeRun
import Derived.Maps.RangeWalk
import Derived.Test.YtbeilgikmikonaaDlO
namespace Go.Proofs.Ytbeilgikmikonaa
open Go.RowKit
open Go.ChangeMaps (setBlock)

theorem wpList_next_map {P : Program} {W : World} {ops : Array Oper} {rest : List Oper} {o : Oper} {a : Act} {Q : Exit → Act → World → Prop} {r b since c0 clock : Nat} {seen : Array Nat} {es : Array MapEntry}
    (hg : o.guard = none) (it : Operand) (hop : o.op = Op.next it false) (hit : a.eval it = .pointer (some ⟨r, 0, none⟩)) (hr : W.heap[r]? = some (.mapIter (some b) since seen c0)) (hb : W.heap[b]? = some (.map es clock)) (hold : ∀ x ∈ es.toList, x.born < since) (hsc : since ≤ c0)
    (h0 : (leftOf es seen).size = 0 → wpList P ops Q rest (a.put o.dst (.tuple #[.bool false])) W)
    (h1 : ∀ e ∈ (leftOf es seen).toList, ∀ w1, (w1 = W ∨ w1 = W.drew) → wpList P ops Q rest (a.put o.dst (.tuple #[.bool true, e.key, e.val])) (setBlock w1 r (.mapIter (some b) since (seen.push e.born) clock))) :
    wpList P ops Q (o :: rest) a W := by
  refine wpList_plain hg fun K' hK' => ?_
  unfold Oper.wp
  rcases run_next_at (P := P) W o.type r b since c0 seen es clock hr hb hold hsc with ⟨hz, hrun⟩ | ⟨e, he, w1, hw1, hrun⟩
  · simp [execOp, hop, hit, hrun, Result.andThen]
    exact hK' _ _ (h0 hz)
  · simp [execOp, hop, hit, hrun, Result.andThen]
    exact hK' _ _ (h1 e he w1 hw1)

/-- A copying under way. -/
structure RgW (w : World) (b1 b2 r : Nat) (st : St) (es : List MapEntry) (clock : Nat) (seen : Array Nat) (stw : St) (W : World) : Prop where
  below : Below w.heap.size w W
  src : MapAt Try.prog 44 W b1 es clock
  it : ∃ c0, W.heap[r]? = some (.mapIter (some b1) clock seen c0) ∧ clock ≤ c0
  dst : MapS W b2 stw
  sub : ∀ p ∈ stw, p ∈ st
  all : ∀ (j : Nat) (e : MapEntry) (p : Key2 × SV), es[j]? = some e → st[j]? = some p → seen.contains e.born = true → p ∈ stw

theorem setBlock_other {W : World} {b k : Nat} {o o' : Obj} (_ : W.heap[b]? = some o) (h : k ≠ b) : (setBlock W b o').heap[k]? = W.heap[k]? := by
  show (W.heap.set! b o')[k]? = _
  simp [Ne.symm h]

theorem setBlock_same {W : World} {b : Nat} {o o' : Obj} (hb : W.heap[b]? = some o) : (setBlock W b o').heap[b]? = some o' := by
  show (W.heap.set! b o')[b]? = _
  have := (Array.getElem?_eq_some_iff.1 hb).1
  simp [this]

theorem setBlock_below {B : Nat} {w W : World} {b : Nat} {o o' : Obj} (h : Below B w W) (hb : W.heap[b]? = some o) (hB : B ≤ b) : Below B w (setBlock W b o') :=
  ⟨h.os, h.tape, h.output, by simpa [setBlock] using h.size, fun k hk => by rw [setBlock_other hb (by omega)]; exact h.block k hk⟩

/-- The step of the range: the iterator has turned. -/
theorem RgW.next {w W w1 : World} {b1 b2 r : Nat} {st : St} {es : List MapEntry} {clock : Nat} {seen : Array Nat} {stw : St} (h : RgW w b1 b2 r st es clock seen stw W) (hr : w.heap.size ≤ r) (hw : w1 = W ∨ w1 = W.drew) (s' : Array Nat) :
    Below w.heap.size w (setBlock w1 r (.mapIter (some b1) clock s' clock)) ∧ MapAt Try.prog 44 (setBlock w1 r (.mapIter (some b1) clock s' clock)) b1 es clock ∧ (setBlock w1 r (.mapIter (some b1) clock s' clock)).heap[r]? = some (.mapIter (some b1) clock s' clock) ∧ MapS (setBlock w1 r (.mapIter (some b1) clock s' clock)) b2 stw := by
  obtain ⟨c0, hi, _⟩ := h.it
  have hh : w1.heap = W.heap := by rcases hw with rfl | rfl <;> rfl
  have hi1 : w1.heap[r]? = some (.mapIter (some b1) clock seen c0) := by rw [hh]; exact hi
  obtain ⟨⟨es2, c2, hm2, _⟩, _⟩ := h.dst
  have n1 : b1 ≠ r := fun e => by have := h.src.heap; rw [e, hi] at this; cases this
  have n2 : b2 ≠ r := fun e => by have := hm2.heap; rw [e, hi] at this; cases this
  refine ⟨setBlock_below (by rcases hw with rfl | rfl; exact h.below; exact h.below.drew) hi1 hr, h.src.turn ?_, setBlock_same hi1, h.dst.turn ?_⟩
  · rw [setBlock_other hi1 n1, hh]
  · rw [setBlock_other hi1 n2, hh]

/-- What the round lays into the copy. -/
theorem rg_put {st stw : St} {es : List MapEntry} {seen : Array Nat} {e : MapEntry} {p : Key2 × SV} {j : Nat} (hst : st.Pairwise fun a b => a.1 ≠ b.1) (hnd : (es.map (·.born)).Nodup) (he : es[j]? = some e) (hp : st[j]? = some p)
    (sub : ∀ q ∈ stw, q ∈ st) (all : ∀ (j : Nat) (e : MapEntry) (p : Key2 × SV), es[j]? = some e → st[j]? = some p → seen.contains e.born = true → p ∈ stw) :
    (∀ q ∈ setS stw p.1 p.2, q ∈ st) ∧ ∀ (j' : Nat) (e' : MapEntry) (p' : Key2 × SV), es[j']? = some e' → st[j']? = some p' → (seen.push e.born).contains e'.born = true → p' ∈ setS stw p.1 p.2 := by
  have hpm : p ∈ st := List.mem_of_getElem? hp
  have hin : (p.1, p.2) ∈ setS stw p.1 p.2 := by
    unfold setS
    split
    · rename_i ha
      obtain ⟨q, hq, hk⟩ := List.any_eq_true.1 ha
      refine List.mem_map.2 ⟨q, hq, ?_⟩
      rw [if_pos hk, beq_iff_eq.1 hk]
    · simp
  refine ⟨fun q hq => ?_, fun j' e' p' he' hp' hs => ?_⟩
  · rcases setS_mem hq with hq | rfl
    · exact sub q hq
    · exact hpm
  · by_cases hk : p'.1 = p.1
    · have : p' = p := by
        obtain ⟨i1, g1⟩ := List.getElem?_eq_some_iff.1 hp
        obtain ⟨i2, g2⟩ := List.getElem?_eq_some_iff.1 hp'
        rw [List.pairwise_iff_getElem] at hst
        rcases Nat.lt_trichotomy j j' with h | h | h
        · have := hst j j' i1 i2 h; rw [g1, g2] at this; exact absurd hk.symm this
        · subst h; rw [← g1, ← g2]
        · have := hst j' j i2 i1 h; rw [g1, g2] at this; exact absurd hk this
      subst this
      exact hin
    · have hold : seen.contains e'.born = true := by
        by_cases hb : e'.born = e.born
        · exfalso
          apply hk
          obtain ⟨i1, g1⟩ := List.getElem?_eq_some_iff.1 he
          obtain ⟨i2, g2⟩ := List.getElem?_eq_some_iff.1 he'
          have : j = j' := by
            have hn2 := List.pairwise_iff_getElem.1 hnd
            rcases Nat.lt_trichotomy j j' with h | h | h
            · exact ((hn2 j j' (by simpa using i1) (by simpa using i2) h) (by rw [List.getElem_map, List.getElem_map, g1, g2, hb])).elim
            · exact h
            · exact ((hn2 j' j (by simpa using i2) (by simpa using i1) h) (by rw [List.getElem_map, List.getElem_map, g1, g2, hb])).elim
          subst this
          rw [hp] at hp'; cases hp'; rfl
        · simp only [Array.contains_iff_mem] at hs ⊢
          rcases Array.mem_push.1 hs with h | h
          · exact h
          · exact absurd h hb
      have hmem := all j' e' p' he' hp' hold
      unfold setS
      split
      · refine List.mem_map.2 ⟨p', hmem, ?_⟩
        have : (p'.1 == p.1) = false := beq_eq_false_iff_ne.2 hk
        rw [this]; rfl
      · exact List.mem_append_left _ hmem

/-- Two states with the same rows. -/
theorem getS_same {a b : St} (ha : a.Pairwise fun x y => x.1 ≠ y.1) (hb : b.Pairwise fun x y => x.1 ≠ y.1) (h : ∀ p, p ∈ a ↔ p ∈ b) (k : Key2) : getS a k = getS b k := by
  have find : ∀ {s : St}, s.Pairwise (fun x y => x.1 ≠ y.1) → ∀ {p}, p ∈ s → p.1 = k → getS s k = p.2 := fun {s} hs {p} hp hk => by
    obtain ⟨j, hj, e⟩ := List.getElem_of_mem hp
    have := find_at hs (j := j) (p := p) (by rw [List.getElem?_eq_getElem hj, e])
    rw [hk] at this
    unfold getS; rw [this]; rfl
  have none : ∀ {s : St}, (∀ p ∈ s, p.1 ≠ k) → getS s k = nilS := fun {s} hs => by
    have : s.find? (fun p => p.1 == k) = none := by
      rw [List.find?_eq_none]
      intro p hp hk
      exact hs p hp (by simpa using hk)
    unfold getS; rw [this]; rfl
  by_cases hx : ∃ p ∈ a, p.1 = k
  · obtain ⟨p, hp, hk⟩ := hx
    rw [find ha hp hk, find hb ((h p).1 hp) hk]
  · have h1 : ∀ p ∈ a, p.1 ≠ k := fun p hp hk => hx ⟨p, hp, hk⟩
    rw [none h1, none fun p hp => h1 p ((h p).2 hp)]
end Go.Proofs.Ytbeilgikmikonaa
