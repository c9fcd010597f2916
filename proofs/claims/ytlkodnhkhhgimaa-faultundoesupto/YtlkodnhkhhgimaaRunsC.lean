/-
  Marks that a call of its own gathers: appends, and what they leave.
-/
import Derived.Test.YtlkodnhkhhgimaaRunsB
import Derived.Maps.AppendAt
namespace Go.Proofs.Ytlkodnhkhhgimaa
open Go.RowKit

theorem Try.infoMark : (Try.prog.info? 54).map (fun i => (i.zero, i.size, i.bytes)) = some (some (.agg #[.int .i64 0, .int .i64 0, .int .i64 0]), 3, 24) := by kernel_rfl

theorem grownBy_of_below {w w' : World} (h : Below w.heap.size w w') : w.grownBy w' none := ⟨h.os, h.tape, h.output, h.size, fun k hk _ => h.block k hk⟩

/-- Marks that lie in a row of the call's own. -/
structure OutAt (B : Nat) (w : World) (v : Value) (ms : List Mk) (W : World) : Prop where
  own : W.ownsRow B 54 3 v ms.length (mksCells ms)
  some' : v ≠ .slice none 0 0
  below : Below B w W
  size : B ≤ W.heap.size

theorem OutAt.sub {B : Nat} {w : World} {v : Value} {ms : List Mk} {W W' : World} (h : OutAt B w v ms W) (hb : Below W.heap.size W W') : OutAt B w v ms W' :=
  ⟨h.own.kept (grownBy_of_below hb) (by cases v.ownBlock <;> simp), h.some', h.below.trans (hb.mono h.size), Nat.le_trans h.size hb.size⟩

theorem OutAt.form {B : Nat} {w : World} {v : Value} {ms : List Mk} {W : World} (h : OutAt B w v ms W) : ∃ g cap, v = .slice (some ⟨g, 0, none⟩) ms.length cap ∧ B ≤ g ∧ g < W.heap.size ∧ ∀ j u, (mksCells ms)[j]? = some u → W.cell? ((⟨g, 0, none⟩ : Addr).add j) = some u := by
  rcases h.own.2 with ⟨rfl, -⟩ | ⟨g, cap, cur, rfl, hb, hg, -⟩
  · exact absurd rfl h.some'
  · exact ⟨g, cap, rfl, hb, lt_of_block hg, h.own.cells rfl⟩

/-- A block of another type is no row of marks. -/
theorem OutAt.other {B : Nat} {w : World} {v : Value} {ms : List Mk} {W : World} (h : OutAt B w v ms W) {b : Nat} {cs : Array Value} {t : TypeId} {f : Nat × Nat} (ht : t ≠ 54) (hb : W.heap[b]? = some (.cells cs t f)) : some b ≠ v.ownBlock := by
  intro e
  rcases h.own.2 with ⟨rfl, -⟩ | ⟨g, cap, cur, rfl, -, hg, -⟩
  · simp [Value.ownBlock] at e
  · simp [Value.ownBlock] at e
    subst e
    rw [hg] at hb
    simp at hb
    exact ht hb.2.1.symm

/-- append of marks, at the operation. -/
theorem app_out {ops : Array Oper} {rest : List Oper} {o : Oper} {a : Act} {Q : Exit → Act → World → Prop} (W : World) (hgd : o.guard = none) (s x : Operand)
    (ho : o.op = .call { callee := .builtin .append, args := #[s, x], argTypes := #[26, 26] })
    {B : Nat} {w : World} {v : Value} {ms : List Mk} (hO : OutAt B w v ms W) (hs : a.eval s = v) (ad : Addr) (m c : Nat) (ns : List Mk) (hx : a.eval x = .slice (some ad) m c) (hm : m = ns.length)
    (hnews : ∀ j u, (mksCells ns)[j]? = some u → W.cell? (ad.add j) = some u) (hlen : ms.length + ns.length ≤ 10000000)
    (h : ∀ v' W', OutAt B w v' (ms ++ ns) W' → (∀ (b : Nat) (cs : Array Value) (t : TypeId) (f : Nat × Nat), t ≠ 54 → W.heap[b]? = some (Obj.cells cs t f) → W'.heap[b]? = some (Obj.cells cs t f)) → wpList Try.prog ops Q rest (a.put o.dst v') W') :
    wpList Try.prog ops Q (o :: rest) a W := by
  obtain ⟨i0, hi, hz0, hz1, hz2⟩ := info_parts Try.infoMark
  refine wpList_append_own_at W hgd s x 26 ho B 54 i0 _ 3 24 Try.underlying26 hi hz0 hz1 hz2 rfl (by decide) v _ _ hs hO.own ad m c (mksCells ns) hx (by rw [hm]; exact mksCells_length ns) hnews (mksCells_one ns)
    (by unfold maxLen; omega) (by omega) hO.size ?_
  intro v' W' h1 h2 h3 h4
  subst hm
  refine h v' W' ⟨?_, ?_, ?_, ?_⟩ ?_
  · rw [List.length_append, mksCells_append]; exact h1
  · intro e; exact hO.some' (h3.1 e).1
  · exact hO.below.grown h2 hO.size fun k e => (hO.own.lt k e).1
  · exact Nat.le_trans hO.size h2.size
  · intro b cs t f ht hb
    rw [h2.block b (lt_of_block hb) (hO.other ht hb)]
    exact hb

theorem news_mark (W : World) (n : Nat) (hn : n = W.heap.size) (m : Mk) : ∀ j u, (mksCells [m])[j]? = some u → (W.alloc (.cells #[.int .i64 m.1, .int .i64 m.2.1, .int .i64 m.2.2] 54)).cell? ((⟨n, 0, none⟩ : Addr).add j) = some u := by
  subst hn
  intro j u hj
  match j, hj with
  | 0, hj => simp [mksCells, mkCells] at hj; subst hj; simp [Addr.add, go_sem]
  | 1, hj => simp [mksCells, mkCells] at hj; subst hj; simp [Addr.add, go_sem]
  | 2, hj => simp [mksCells, mkCells] at hj; subst hj; simp [Addr.add, go_sem]

theorem news_mark2 (W : World) (n : Nat) (hn : n = W.heap.size) (m m' : Mk) : ∀ j u, (mksCells [m, m'])[j]? = some u →
    (W.alloc (.cells #[.int .i64 m.1, .int .i64 m.2.1, .int .i64 m.2.2, .int .i64 m'.1, .int .i64 m'.2.1, .int .i64 m'.2.2] 54)).cell? ((⟨n, 0, none⟩ : Addr).add j) = some u := by
  subst hn
  intro j u hj
  match j, hj with
  | 0, hj => simp [mksCells, mkCells] at hj; subst hj; simp [Addr.add, go_sem]
  | 1, hj => simp [mksCells, mkCells] at hj; subst hj; simp [Addr.add, go_sem]
  | 2, hj => simp [mksCells, mkCells] at hj; subst hj; simp [Addr.add, go_sem]
  | 3, hj => simp [mksCells, mkCells] at hj; subst hj; simp [Addr.add, go_sem]
  | 4, hj => simp [mksCells, mkCells] at hj; subst hj; simp [Addr.add, go_sem]
  | 5, hj => simp [mksCells, mkCells] at hj; subst hj; simp [Addr.add, go_sem]

/-- A step's own copy. -/
abbrev stepO (k n a : Int) (x1 : Option Addr) (l1 c1 : Nat) (x2 : Option Addr) (l2 c2 : Nat) : Obj :=
  .cells #[.int .i64 k, .int .i64 n, .int .i64 a, .slice x1 l1 c1, .slice x2 l2 c2] 51 (0, 0)

theorem step_cells {W : World} {b : Nat} {k n a : Int} {x1 x2 : Option Addr} {l1 c1 l2 c2 : Nat} (h : W.heap[b]? = some (stepO k n a x1 l1 c1 x2 l2 c2)) :
    W.cell? ⟨b, 0, none⟩ = some (.int .i64 k) ∧ W.cell? ⟨b, 1, none⟩ = some (.int .i64 n) ∧ W.cell? ⟨b, 2, none⟩ = some (.int .i64 a) ∧ W.cell? ⟨b, 3, none⟩ = some (.slice x1 l1 c1) ∧ W.cell? ⟨b, 4, none⟩ = some (.slice x2 l2 c2) := by
  simp [World.cell?, h, stepO]

end Go.Proofs.Ytlkodnhkhhgimaa
