/-
  Two lists of a struct's variable are copied by one assignment: x.Old, x.New = append([]V{}, x.Old...), append([]V{}, x.New...): in whatever order.
-/
import Derived.Test.YtmcbpopeinabcaaRwA
import Derived.Test.YtmcbpopeinabcaaInvR
namespace Go.Proofs.Ytmcbpopeinabcaa.Rw
open Go Go.RowKit

theorem infoV : (Try.prog.info? 55).map (fun i => (i.zero, i.size, i.bytes)) = some (some (.agg #[.int .i64 0, .int .i64 0, .string ⟨#[]⟩]), 3, 32) := by kernel_rfl

section
variable {ops : Array Oper} {Q : Exit → Act → World → Prop} {K : Act → World → Prop}

theorem op_build {o : Oper} {a : Act} {w : World} (ho : o.op = .buildSlice 25 0 #[]) (hK : K (a.put o.dst (.slice (some ⟨w.heap.size, 0, none⟩) 0 0)) (w.alloc (.cells #[] 55))) : Oper.wp Try.prog o a w K Q := by
  unfold Oper.wp
  simp [execOp, ho, go_sem, run_underlying Try.underlying25]
  exact hK

theorem op_load {o : Oper} {a : Act} {w : World} {s X fo : Nat} {v : Value} (ho : o.op = .load 25 (.tmp s)) (hs : a.eval (.tmp s) = .pointer (some ⟨X, fo, none⟩)) (hc : w.cell? ⟨X, fo, none⟩ = some v) (hK : K (a.put o.dst v) w) : Oper.wp Try.prog o a w K Q := by
  have hs' : a.tmps[s]?.getD undef = .pointer (some ⟨X, fo, none⟩) := by simpa [Act.eval] using hs
  unfold Oper.wp
  simp [execOp, ho, go_sem, hs', hc]
  exact hK

theorem op_store {o : Oper} {a : Act} {w : World} {s t X fo : Nat} {x : Option Addr} {n c : Nat} {v0 : Value} (ho : o.op = .store 25 (.tmp s) (.tmp t)) (hd : o.dst = none) (hs : a.eval (.tmp s) = .pointer (some ⟨X, fo, none⟩)) (ht : a.eval (.tmp t) = .slice x n c) (hc : w.cell? ⟨X, fo, none⟩ = some v0) (hf : w.frozen? ⟨X, fo, none⟩ = false) (hK : K a (w.setCell ⟨X, fo, none⟩ (.slice x n c))) : Oper.wp Try.prog o a w K Q := by
  have hs' : a.tmps[s]?.getD undef = .pointer (some ⟨X, fo, none⟩) := by simpa [Act.eval] using hs
  have ht' : a.tmps[t]?.getD undef = .slice x n c := by simpa [Act.eval] using ht
  unfold Oper.wp
  simp [execOp, ho, go_sem, hs', ht', hc, hf]
  rw [hd]
  exact hK

theorem op_append {o : Oper} {a : Act} {W1 : World} (s x : Operand) (ho : o.op = .call { callee := .builtin .append, args := #[s, x], argTypes := #[25, 25] })
    (base : Nat) (hbase : base ≤ W1.heap.size) (v : Value) (n : Nat) (xs : List Value) (hs : a.eval s = v) (h : W1.ownsRow base 55 3 v n xs) (b : Option Addr) (m cap : Nat) (news : List Value) (hx : a.eval x = .slice b m cap) (hm : Src W1 b m cap news)
    (hl : news.length = m * 3) (h1 : ∀ u ∈ news, u.oneCell' = true) (hn : n + m ≤ 1000000)
    (hK : ∀ v' W', W'.ownsRow base 55 3 v' (n + m) (xs ++ news) → W1.grownBy W' v.ownBlock → (v'.ownBlock = v.ownBlock ∨ v'.ownBlock = some W1.heap.size) → K (a.put o.dst v') W') : Oper.wp Try.prog o a W1 K Q := by
  obtain ⟨i, hi, hz⟩ := Option.map_eq_some_iff.1 infoV
  simp only [Prod.mk.injEq] at hz
  obtain ⟨h3, h4, h5⟩ := hz
  rcases hm with ⟨rfl, rfl, rfl, rfl⟩ | ⟨ad, rfl, hc⟩
  · have hrun := run_append_owned_none (P := Try.prog) (w := W1) base 25 o.type 55 i 3 Try.underlying25 hi v n xs h
    unfold Oper.wp
    simp [execOp, ho, resolve, invoke, builtin, hs, hx, hrun, Result.andThen]
    exact hK v W1 (by simpa using h) ⟨rfl, rfl, rfl, Nat.le_refl _, fun _ _ _ => rfl⟩ (Or.inl rfl)
  · obtain ⟨v', w', hr, h6, h7, _, h9⟩ := run_append_own_at (P := Try.prog) W1 base 25 o.type 55 i _ 3 32 Try.underlying25 hi h3 h4 h5 rfl (by decide) v n xs h ad m cap news hl hc h1 (by unfold maxLen; omega) (by omega) hbase
    unfold Oper.wp execOp
    simp only [ho, resolve, invoke, builtin, Sem.run_bind, Sem.run_pure, Result.andThen_ok, List.map_toArray, List.map_cons, List.map_nil, hs, hx, hr]
    exact hK v' w' h6 h7 h9
end

/-- The two rows while the region goes on. -/
structure TwR (U : World) (s ol nl : Nat) (yo yn : List Value) (d : Nat → Bool) (a : Act) (W : World) (vA : Value) (nA : Nat) (xA : List Value) (vB : Value) (nB : Nat) (xB : List Value) : Prop where
  A : W.ownsRow U.heap.size 55 3 vA nA xA
  B : W.ownsRow U.heap.size 55 3 vB nB xB
  apart : ∀ p, vA.ownBlock = some p → vB.ownBlock ≠ some p
  a0 : d 0 = true → d 3 = false → a.eval (.tmp s) = vA ∧ nA = 0 ∧ xA = []
  a1 : d 3 = true → a.eval (.tmp (s + 3)) = vA ∧ nA = ol ∧ xA = yo
  b0 : d 4 = true → d 7 = false → a.eval (.tmp (s + 4)) = vB ∧ nB = 0 ∧ xB = []
  b1 : d 7 = true → a.eval (.tmp (s + 7)) = vB ∧ nB = nl ∧ xB = yn

structure TwI (U : World) (a0 : Act) (s X fo fn T : Nat) (bx : Value → Value → Array Value) (ov nv : Value) (ol nl : Nat) (yo yn : List Value) (d : Nat → Bool) (a : Act) (W : World) : Prop where
  fr : Frm s 10 a0 a
  below : Below X U W
  rows : ∃ vA nA xA vB nB xB, TwR U s ol nl yo yn d a W vA nA xA vB nB xB
  e1 : d 1 = true → a.eval (.tmp (s + 1)) = .pointer (some ⟨X, fo, none⟩)
  e2 : d 2 = true → a.eval (.tmp (s + 2)) = ov
  e5 : d 5 = true → a.eval (.tmp (s + 5)) = .pointer (some ⟨X, fn, none⟩)
  e6 : d 6 = true → a.eval (.tmp (s + 6)) = nv
  e8 : d 8 = true → a.eval (.tmp (s + 8)) = .pointer (some ⟨X, fo, none⟩)
  e10 : d 10 = true → a.eval (.tmp (s + 9)) = .pointer (some ⟨X, fn, none⟩)
  box : ∃ x y, W.heap[X]? = some (.cells (bx x y) T (0, 0)) ∧ (d 9 = false → x = ov) ∧ (d 9 = true → a.eval (.tmp (s + 3)) = x) ∧ (d 11 = false → y = nv) ∧ (d 11 = true → a.eval (.tmp (s + 7)) = y)
  c3 : d 3 = true → d 0 = true
  c7 : d 7 = true → d 4 = true ∧ d 3 = true
  c9 : d 9 = true → d 7 = true
  c11 : d 11 = true → d 9 = true
  c32 : d 3 = true → d 2 = true
  c76 : d 7 = true → d 6 = true

/-- What the region's operations are. -/
structure TwOps (ops : Array Oper) (s xs fo fn T : Nat) : Prop where
  o0 : ∃ o, ops[0]? = some o ∧ o.op = .buildSlice 25 0 #[] ∧ o.dst = some s ∧ o.guard = none
  o1 : ∃ o, ops[1]? = some o ∧ o.op = .fieldAddr T (.tmp xs) fo ∧ o.dst = some (s + 1) ∧ o.guard = none
  o2 : ∃ o, ops[2]? = some o ∧ o.op = .load 25 (.tmp (s + 1)) ∧ o.dst = some (s + 2) ∧ o.guard = none ∧ ∃ e ∈ o.after, Region.binds .any e = true ∧ e.on = 1
  o3 : ∃ o, ops[3]? = some o ∧ o.op = .call { callee := .builtin .append, args := #[.tmp s, .tmp (s + 2)], argTypes := #[25, 25] } ∧ o.dst = some (s + 3) ∧ o.guard = none ∧ (∃ e ∈ o.after, Region.binds .any e = true ∧ e.on = 0) ∧ ∃ e ∈ o.after, Region.binds .any e = true ∧ e.on = 2
  o4 : ∃ o, ops[4]? = some o ∧ o.op = .buildSlice 25 0 #[] ∧ o.dst = some (s + 4) ∧ o.guard = none
  o5 : ∃ o, ops[5]? = some o ∧ o.op = .fieldAddr T (.tmp xs) fn ∧ o.dst = some (s + 5) ∧ o.guard = none
  o6 : ∃ o, ops[6]? = some o ∧ o.op = .load 25 (.tmp (s + 5)) ∧ o.dst = some (s + 6) ∧ o.guard = none ∧ ∃ e ∈ o.after, Region.binds .any e = true ∧ e.on = 5
  o7 : ∃ o, ops[7]? = some o ∧ o.op = .call { callee := .builtin .append, args := #[.tmp (s + 4), .tmp (s + 6)], argTypes := #[25, 25] } ∧ o.dst = some (s + 7) ∧ o.guard = none ∧ (∃ e ∈ o.after, Region.binds .any e = true ∧ e.on = 4) ∧ (∃ e ∈ o.after, Region.binds .any e = true ∧ e.on = 6) ∧ ∃ e ∈ o.after, Region.binds .any e = true ∧ e.on = 3
  o8 : ∃ o, ops[8]? = some o ∧ o.op = .fieldAddr T (.tmp xs) fo ∧ o.dst = some (s + 8) ∧ o.guard = none
  o9 : ∃ o, ops[9]? = some o ∧ o.op = .store 25 (.tmp (s + 8)) (.tmp (s + 3)) ∧ o.dst = none ∧ o.guard = none ∧ (∃ e ∈ o.after, Region.binds .any e = true ∧ e.on = 8) ∧ (∃ e ∈ o.after, Region.binds .any e = true ∧ e.on = 7) ∧ ∃ e ∈ o.after, Region.binds .any e = true ∧ e.on = 6
  o10 : ∃ o, ops[10]? = some o ∧ o.op = .fieldAddr T (.tmp xs) fn ∧ o.dst = some (s + 9) ∧ o.guard = none
  o11 : ∃ o, ops[11]? = some o ∧ o.op = .store 25 (.tmp (s + 9)) (.tmp (s + 7)) ∧ o.dst = none ∧ o.guard = none ∧ (∃ e ∈ o.after, Region.binds .any e = true ∧ e.on = 10) ∧ (∃ e ∈ o.after, Region.binds .any e = true ∧ e.on = 9)
  size : ops.size = 12
  low : ∀ (i : Nat) (o : Oper), ops[i]? = some o → ∀ e ∈ o.after, e.on < i

def lowB (ops : Array Oper) : Bool := (List.range ops.size).all fun i => match ops[i]? with
  | some o => o.after.all fun e => decide (e.on < i)
  | none => true
theorem low_of {ops : Array Oper} (h : lowB ops = true) : ∀ (i : Nat) (o : Oper), ops[i]? = some o → ∀ e ∈ o.after, e.on < i := fun i o ho e he => by
  have := List.all_eq_true.1 h i (List.mem_range.2 (Array.getElem?_eq_some_iff.1 ho).1)
  simp only [ho] at this
  have := Array.all_eq_true_iff_forall_mem.1 this e he
  simpa using this
def depB (o : Oper) (k : Nat) : Bool := o.after.any fun e => Region.binds .any e && e.on == k
theorem dep_of {o : Oper} {k : Nat} (h : depB o k = true) : ∃ e ∈ o.after, Region.binds .any e = true ∧ e.on = k := by
  unfold depB at h
  rw [← Array.any_toList] at h
  obtain ⟨e, he, hk⟩ := List.any_eq_true.1 h
  simp only [Bool.and_eq_true, beq_iff_eq] at hk
  exact ⟨e, Array.mem_toList_iff.1 he, hk.1, hk.2⟩

theorem dep {o : Oper} {d : Nat → Bool} {k : Nat} (h : ∃ e ∈ o.after, Region.binds .any e = true ∧ e.on = k) (hd : ∀ e ∈ o.after, Region.binds .any e = true → d e.on = true) : d k = true := by
  obtain ⟨e, he, hb, rfl⟩ := h
  exact hd e he hb

theorem tw0 {U : World} {a0 : Act} {s X fo fn T : Nat} {bx : Value → Value → Array Value} {ov nv : Value} {ol nl : Nat} {yo yn : List Value} {d : Nat → Bool} {a : Act} {W : World} (h : TwI U a0 s X fo fn T bx ov nv ol nl yo yn d a W) (hs : s + 10 ≤ a0.tmps.size) (hd : d 0 = false) {v : Value} (hv : v = .slice (some ⟨W.heap.size, 0, none⟩) 0 0) : TwI U a0 s X fo fn T bx ov nv ol nl yo yn (fun j => j == 0 || d j) (a.put (some (s)) v) (W.alloc (.cells #[] 55)) := by
  have hz : a.tmps.size = a0.tmps.size := h.fr.size
  obtain ⟨vA, nA, xA, vB, nB, xB, R⟩ := h.rows
  obtain ⟨x, y, k1, k2, k3, k4, k5⟩ := h.box
  subst hv
  have hXW : X < W.heap.size := (Array.getElem?_eq_some_iff.1 k1).1
  have hU : U.heap.size ≤ W.heap.size := h.below.size
  refine ⟨h.fr.put (by omega) (by omega) _, h.below.alloc (Nat.le_of_lt hXW) _, ⟨(.slice (some ⟨W.heap.size, 0, none⟩) 0 0), 0, [], vB, nB, xB, own_new (heap_new _ _) hU, owns_on R.B (below_alloc _ _), fun p hp e => (by cases hp; exact absurd (R.B.lt _ e).2 (Nat.lt_irrefl _)), fun _ _ => ⟨put_get _ _ _ (by omega), rfl, rfl⟩, fun q => (by have q3 := h.c3 (by simpa using q); rw [hd] at q3; cases q3), fun q r => (by rw [put_ne _ _ _ _ (by omega)]; exact R.b0 (by simpa using q) (by simpa using r)), fun q => (by rw [put_ne _ _ _ _ (by omega)]; exact R.b1 (by simpa using q))⟩, fun q => (by rw [put_ne _ _ _ _ (by omega)]; exact h.e1 (by simpa using q)), fun q => (by rw [put_ne _ _ _ _ (by omega)]; exact h.e2 (by simpa using q)), fun q => (by rw [put_ne _ _ _ _ (by omega)]; exact h.e5 (by simpa using q)), fun q => (by rw [put_ne _ _ _ _ (by omega)]; exact h.e6 (by simpa using q)), fun q => (by rw [put_ne _ _ _ _ (by omega)]; exact h.e8 (by simpa using q)), fun q => (by rw [put_ne _ _ _ _ (by omega)]; exact h.e10 (by simpa using q)), ⟨x, y, (Below.heap_alloc _ _ _ hXW).trans k1, fun q => k2 (by simpa using q), fun q => (by rw [put_ne _ _ _ _ (by omega)]; exact k3 (by simpa using q)), fun q => k4 (by simpa using q), fun q => (by rw [put_ne _ _ _ _ (by omega)]; exact k5 (by simpa using q))⟩, fun q => (by have g := h.c3 (by simpa using q); simp [g]), fun q => (by have g := h.c7 (by simpa using q); simp [g.1, g.2]), fun q => (by have g := h.c9 (by simpa using q); simp [g]), fun q => (by have g := h.c11 (by simpa using q); simp [g]), fun q => (by have g := h.c32 (by simpa using q); simp [g]), fun q => (by have g := h.c76 (by simpa using q); simp [g])⟩

theorem tw1 {U : World} {a0 : Act} {s X fo fn T : Nat} {bx : Value → Value → Array Value} {ov nv : Value} {ol nl : Nat} {yo yn : List Value} {d : Nat → Bool} {a : Act} {W : World} (h : TwI U a0 s X fo fn T bx ov nv ol nl yo yn d a W) (hs : s + 10 ≤ a0.tmps.size) (_hd : d 1 = false) {v : Value} (hv : v = .pointer (some ⟨X, fo, none⟩)) : TwI U a0 s X fo fn T bx ov nv ol nl yo yn (fun j => j == 1 || d j) (a.put (some (s + 1)) v) W := by
  have hz : a.tmps.size = a0.tmps.size := h.fr.size
  obtain ⟨vA, nA, xA, vB, nB, xB, R⟩ := h.rows
  obtain ⟨x, y, k1, k2, k3, k4, k5⟩ := h.box
  refine ⟨h.fr.put (by omega) (by omega) _, h.below, ⟨vA, nA, xA, vB, nB, xB, R.A, R.B, R.apart, fun q r => (by rw [put_ne _ _ _ _ (by omega)]; exact R.a0 (by simpa using q) (by simpa using r)), fun q => (by rw [put_ne _ _ _ _ (by omega)]; exact R.a1 (by simpa using q)), fun q r => (by rw [put_ne _ _ _ _ (by omega)]; exact R.b0 (by simpa using q) (by simpa using r)), fun q => (by rw [put_ne _ _ _ _ (by omega)]; exact R.b1 (by simpa using q))⟩, fun _ => (put_get _ _ _ (by omega)).trans hv, fun q => (by rw [put_ne _ _ _ _ (by omega)]; exact h.e2 (by simpa using q)), fun q => (by rw [put_ne _ _ _ _ (by omega)]; exact h.e5 (by simpa using q)), fun q => (by rw [put_ne _ _ _ _ (by omega)]; exact h.e6 (by simpa using q)), fun q => (by rw [put_ne _ _ _ _ (by omega)]; exact h.e8 (by simpa using q)), fun q => (by rw [put_ne _ _ _ _ (by omega)]; exact h.e10 (by simpa using q)), ⟨x, y, k1, fun q => k2 (by simpa using q), fun q => (by rw [put_ne _ _ _ _ (by omega)]; exact k3 (by simpa using q)), fun q => k4 (by simpa using q), fun q => (by rw [put_ne _ _ _ _ (by omega)]; exact k5 (by simpa using q))⟩, fun q => (by have g := h.c3 (by simpa using q); simp [g]), fun q => (by have g := h.c7 (by simpa using q); simp [g.1, g.2]), fun q => (by have g := h.c9 (by simpa using q); simp [g]), fun q => (by have g := h.c11 (by simpa using q); simp [g]), fun q => (by have g := h.c32 (by simpa using q); simp [g]), fun q => (by have g := h.c76 (by simpa using q); simp [g])⟩

theorem tw2 {U : World} {a0 : Act} {s X fo fn T : Nat} {bx : Value → Value → Array Value} {ov nv : Value} {ol nl : Nat} {yo yn : List Value} {d : Nat → Bool} {a : Act} {W : World} (h : TwI U a0 s X fo fn T bx ov nv ol nl yo yn d a W) (hs : s + 10 ≤ a0.tmps.size) (_hd : d 2 = false) {v : Value} (hv : v = ov) : TwI U a0 s X fo fn T bx ov nv ol nl yo yn (fun j => j == 2 || d j) (a.put (some (s + 2)) v) W := by
  have hz : a.tmps.size = a0.tmps.size := h.fr.size
  obtain ⟨vA, nA, xA, vB, nB, xB, R⟩ := h.rows
  obtain ⟨x, y, k1, k2, k3, k4, k5⟩ := h.box
  refine ⟨h.fr.put (by omega) (by omega) _, h.below, ⟨vA, nA, xA, vB, nB, xB, R.A, R.B, R.apart, fun q r => (by rw [put_ne _ _ _ _ (by omega)]; exact R.a0 (by simpa using q) (by simpa using r)), fun q => (by rw [put_ne _ _ _ _ (by omega)]; exact R.a1 (by simpa using q)), fun q r => (by rw [put_ne _ _ _ _ (by omega)]; exact R.b0 (by simpa using q) (by simpa using r)), fun q => (by rw [put_ne _ _ _ _ (by omega)]; exact R.b1 (by simpa using q))⟩, fun q => (by rw [put_ne _ _ _ _ (by omega)]; exact h.e1 (by simpa using q)), fun _ => (put_get _ _ _ (by omega)).trans hv, fun q => (by rw [put_ne _ _ _ _ (by omega)]; exact h.e5 (by simpa using q)), fun q => (by rw [put_ne _ _ _ _ (by omega)]; exact h.e6 (by simpa using q)), fun q => (by rw [put_ne _ _ _ _ (by omega)]; exact h.e8 (by simpa using q)), fun q => (by rw [put_ne _ _ _ _ (by omega)]; exact h.e10 (by simpa using q)), ⟨x, y, k1, fun q => k2 (by simpa using q), fun q => (by rw [put_ne _ _ _ _ (by omega)]; exact k3 (by simpa using q)), fun q => k4 (by simpa using q), fun q => (by rw [put_ne _ _ _ _ (by omega)]; exact k5 (by simpa using q))⟩, fun q => (by have g := h.c3 (by simpa using q); simp [g]), fun q => (by have g := h.c7 (by simpa using q); simp [g.1, g.2]), fun q => (by have g := h.c9 (by simpa using q); simp [g]), fun q => (by have g := h.c11 (by simpa using q); simp [g]), fun q => (by have g := h.c32 (by simpa using q); simp [g]), fun q => (by have g := h.c76 (by simpa using q); simp [g])⟩

theorem tw3 {U : World} {a0 : Act} {s X fo fn T : Nat} {bx : Value → Value → Array Value} {ov nv : Value} {ol nl : Nat} {yo yn : List Value} {d : Nat → Bool} {a : Act} {W : World} (h : TwI U a0 s X fo fn T bx ov nv ol nl yo yn d a W) (hs : s + 10 ≤ a0.tmps.size) (hd : d 3 = false) (p0 : d 0 = true) (p2 : d 2 = true) {v : Value} {W' : World} {vA vB : Value} {nA nB : Nat} {xA xB : List Value} (R : TwR U s ol nl yo yn d a W vA nA xA vB nB xB) (O : W'.ownsRow U.heap.size 55 3 v ol yo) (G : W.grownBy W' vA.ownBlock) (hA : v.ownBlock = vA.ownBlock ∨ v.ownBlock = some W.heap.size) (hX : X < U.heap.size) : TwI U a0 s X fo fn T bx ov nv ol nl yo yn (fun j => j == 3 || d j) (a.put (some (s + 3)) v) W' := by
  have hz : a.tmps.size = a0.tmps.size := h.fr.size
  obtain ⟨x, y, k1, k2, k3, k4, k5⟩ := h.box
  have hXW : X < W.heap.size := (Array.getElem?_eq_some_iff.1 k1).1
  have hXu : vA.ownBlock ≠ some X := fun e => by have := (R.A.lt X e).1; omega
  refine ⟨h.fr.put (by omega) (by omega) _, h.below.grown G (Nat.le_of_lt hXW) fun p hp => (by have := (R.A.lt p hp).1; omega), ⟨v, ol, yo, vB, nB, xB, O, (owns_below R.B fun p hp => G.block p (R.B.lt p hp).2 fun e => R.apart p e.symm hp), fun p hp e => (by rcases hA with g | g; (· rw [g] at hp; exact R.apart p hp e); (· rw [g] at hp; cases hp; exact absurd (R.B.lt _ e).2 (Nat.lt_irrefl _))), fun _ r => (by simp at r), fun _ => ⟨put_get _ _ _ (by omega), rfl, rfl⟩, fun q r => (by rw [put_ne _ _ _ _ (by omega)]; exact R.b0 (by simpa using q) (by simpa using r)), fun q => (by rw [put_ne _ _ _ _ (by omega)]; exact R.b1 (by simpa using q))⟩, fun q => (by rw [put_ne _ _ _ _ (by omega)]; exact h.e1 (by simpa using q)), fun q => (by rw [put_ne _ _ _ _ (by omega)]; exact h.e2 (by simpa using q)), fun q => (by rw [put_ne _ _ _ _ (by omega)]; exact h.e5 (by simpa using q)), fun q => (by rw [put_ne _ _ _ _ (by omega)]; exact h.e6 (by simpa using q)), fun q => (by rw [put_ne _ _ _ _ (by omega)]; exact h.e8 (by simpa using q)), fun q => (by rw [put_ne _ _ _ _ (by omega)]; exact h.e10 (by simpa using q)), ⟨x, y, (G.block X hXW (fun e => hXu e.symm)).trans k1, fun q => k2 (by simpa using q), fun q => (by have q3 := (h.c7 (h.c9 (by simpa using q))).2; rw [hd] at q3; cases q3), fun q => k4 (by simpa using q), fun q => (by rw [put_ne _ _ _ _ (by omega)]; exact k5 (by simpa using q))⟩, fun _ => (by simp [p0]), fun q => (by have g := h.c7 (by simpa using q); simp [g.1, g.2]), fun q => (by have g := h.c9 (by simpa using q); simp [g]), fun q => (by have g := h.c11 (by simpa using q); simp [g]), fun _ => (by simp [p2]), fun q => (by have g := h.c76 (by simpa using q); simp [g])⟩

theorem tw4 {U : World} {a0 : Act} {s X fo fn T : Nat} {bx : Value → Value → Array Value} {ov nv : Value} {ol nl : Nat} {yo yn : List Value} {d : Nat → Bool} {a : Act} {W : World} (h : TwI U a0 s X fo fn T bx ov nv ol nl yo yn d a W) (hs : s + 10 ≤ a0.tmps.size) (hd : d 4 = false) {v : Value} (hv : v = .slice (some ⟨W.heap.size, 0, none⟩) 0 0) : TwI U a0 s X fo fn T bx ov nv ol nl yo yn (fun j => j == 4 || d j) (a.put (some (s + 4)) v) (W.alloc (.cells #[] 55)) := by
  have hz : a.tmps.size = a0.tmps.size := h.fr.size
  obtain ⟨vA, nA, xA, vB, nB, xB, R⟩ := h.rows
  obtain ⟨x, y, k1, k2, k3, k4, k5⟩ := h.box
  subst hv
  have hXW : X < W.heap.size := (Array.getElem?_eq_some_iff.1 k1).1
  have hU : U.heap.size ≤ W.heap.size := h.below.size
  refine ⟨h.fr.put (by omega) (by omega) _, h.below.alloc (Nat.le_of_lt hXW) _, ⟨vA, nA, xA, (.slice (some ⟨W.heap.size, 0, none⟩) 0 0), 0, [], owns_on R.A (below_alloc _ _), own_new (heap_new _ _) hU, fun p hp e => (by cases e; exact absurd (R.A.lt _ hp).2 (Nat.lt_irrefl _)), fun q r => (by rw [put_ne _ _ _ _ (by omega)]; exact R.a0 (by simpa using q) (by simpa using r)), fun q => (by rw [put_ne _ _ _ _ (by omega)]; exact R.a1 (by simpa using q)), fun _ _ => ⟨put_get _ _ _ (by omega), rfl, rfl⟩, fun q => (by have q3 := (h.c7 (by simpa using q)).1; rw [hd] at q3; cases q3)⟩, fun q => (by rw [put_ne _ _ _ _ (by omega)]; exact h.e1 (by simpa using q)), fun q => (by rw [put_ne _ _ _ _ (by omega)]; exact h.e2 (by simpa using q)), fun q => (by rw [put_ne _ _ _ _ (by omega)]; exact h.e5 (by simpa using q)), fun q => (by rw [put_ne _ _ _ _ (by omega)]; exact h.e6 (by simpa using q)), fun q => (by rw [put_ne _ _ _ _ (by omega)]; exact h.e8 (by simpa using q)), fun q => (by rw [put_ne _ _ _ _ (by omega)]; exact h.e10 (by simpa using q)), ⟨x, y, (Below.heap_alloc _ _ _ hXW).trans k1, fun q => k2 (by simpa using q), fun q => (by rw [put_ne _ _ _ _ (by omega)]; exact k3 (by simpa using q)), fun q => k4 (by simpa using q), fun q => (by rw [put_ne _ _ _ _ (by omega)]; exact k5 (by simpa using q))⟩, fun q => (by have g := h.c3 (by simpa using q); simp [g]), fun q => (by have g := h.c7 (by simpa using q); simp [g.1, g.2]), fun q => (by have g := h.c9 (by simpa using q); simp [g]), fun q => (by have g := h.c11 (by simpa using q); simp [g]), fun q => (by have g := h.c32 (by simpa using q); simp [g]), fun q => (by have g := h.c76 (by simpa using q); simp [g])⟩

theorem tw5 {U : World} {a0 : Act} {s X fo fn T : Nat} {bx : Value → Value → Array Value} {ov nv : Value} {ol nl : Nat} {yo yn : List Value} {d : Nat → Bool} {a : Act} {W : World} (h : TwI U a0 s X fo fn T bx ov nv ol nl yo yn d a W) (hs : s + 10 ≤ a0.tmps.size) (_hd : d 5 = false) {v : Value} (hv : v = .pointer (some ⟨X, fn, none⟩)) : TwI U a0 s X fo fn T bx ov nv ol nl yo yn (fun j => j == 5 || d j) (a.put (some (s + 5)) v) W := by
  have hz : a.tmps.size = a0.tmps.size := h.fr.size
  obtain ⟨vA, nA, xA, vB, nB, xB, R⟩ := h.rows
  obtain ⟨x, y, k1, k2, k3, k4, k5⟩ := h.box
  refine ⟨h.fr.put (by omega) (by omega) _, h.below, ⟨vA, nA, xA, vB, nB, xB, R.A, R.B, R.apart, fun q r => (by rw [put_ne _ _ _ _ (by omega)]; exact R.a0 (by simpa using q) (by simpa using r)), fun q => (by rw [put_ne _ _ _ _ (by omega)]; exact R.a1 (by simpa using q)), fun q r => (by rw [put_ne _ _ _ _ (by omega)]; exact R.b0 (by simpa using q) (by simpa using r)), fun q => (by rw [put_ne _ _ _ _ (by omega)]; exact R.b1 (by simpa using q))⟩, fun q => (by rw [put_ne _ _ _ _ (by omega)]; exact h.e1 (by simpa using q)), fun q => (by rw [put_ne _ _ _ _ (by omega)]; exact h.e2 (by simpa using q)), fun _ => (put_get _ _ _ (by omega)).trans hv, fun q => (by rw [put_ne _ _ _ _ (by omega)]; exact h.e6 (by simpa using q)), fun q => (by rw [put_ne _ _ _ _ (by omega)]; exact h.e8 (by simpa using q)), fun q => (by rw [put_ne _ _ _ _ (by omega)]; exact h.e10 (by simpa using q)), ⟨x, y, k1, fun q => k2 (by simpa using q), fun q => (by rw [put_ne _ _ _ _ (by omega)]; exact k3 (by simpa using q)), fun q => k4 (by simpa using q), fun q => (by rw [put_ne _ _ _ _ (by omega)]; exact k5 (by simpa using q))⟩, fun q => (by have g := h.c3 (by simpa using q); simp [g]), fun q => (by have g := h.c7 (by simpa using q); simp [g.1, g.2]), fun q => (by have g := h.c9 (by simpa using q); simp [g]), fun q => (by have g := h.c11 (by simpa using q); simp [g]), fun q => (by have g := h.c32 (by simpa using q); simp [g]), fun q => (by have g := h.c76 (by simpa using q); simp [g])⟩

theorem tw6 {U : World} {a0 : Act} {s X fo fn T : Nat} {bx : Value → Value → Array Value} {ov nv : Value} {ol nl : Nat} {yo yn : List Value} {d : Nat → Bool} {a : Act} {W : World} (h : TwI U a0 s X fo fn T bx ov nv ol nl yo yn d a W) (hs : s + 10 ≤ a0.tmps.size) (_hd : d 6 = false) {v : Value} (hv : v = nv) : TwI U a0 s X fo fn T bx ov nv ol nl yo yn (fun j => j == 6 || d j) (a.put (some (s + 6)) v) W := by
  have hz : a.tmps.size = a0.tmps.size := h.fr.size
  obtain ⟨vA, nA, xA, vB, nB, xB, R⟩ := h.rows
  obtain ⟨x, y, k1, k2, k3, k4, k5⟩ := h.box
  refine ⟨h.fr.put (by omega) (by omega) _, h.below, ⟨vA, nA, xA, vB, nB, xB, R.A, R.B, R.apart, fun q r => (by rw [put_ne _ _ _ _ (by omega)]; exact R.a0 (by simpa using q) (by simpa using r)), fun q => (by rw [put_ne _ _ _ _ (by omega)]; exact R.a1 (by simpa using q)), fun q r => (by rw [put_ne _ _ _ _ (by omega)]; exact R.b0 (by simpa using q) (by simpa using r)), fun q => (by rw [put_ne _ _ _ _ (by omega)]; exact R.b1 (by simpa using q))⟩, fun q => (by rw [put_ne _ _ _ _ (by omega)]; exact h.e1 (by simpa using q)), fun q => (by rw [put_ne _ _ _ _ (by omega)]; exact h.e2 (by simpa using q)), fun q => (by rw [put_ne _ _ _ _ (by omega)]; exact h.e5 (by simpa using q)), fun _ => (put_get _ _ _ (by omega)).trans hv, fun q => (by rw [put_ne _ _ _ _ (by omega)]; exact h.e8 (by simpa using q)), fun q => (by rw [put_ne _ _ _ _ (by omega)]; exact h.e10 (by simpa using q)), ⟨x, y, k1, fun q => k2 (by simpa using q), fun q => (by rw [put_ne _ _ _ _ (by omega)]; exact k3 (by simpa using q)), fun q => k4 (by simpa using q), fun q => (by rw [put_ne _ _ _ _ (by omega)]; exact k5 (by simpa using q))⟩, fun q => (by have g := h.c3 (by simpa using q); simp [g]), fun q => (by have g := h.c7 (by simpa using q); simp [g.1, g.2]), fun q => (by have g := h.c9 (by simpa using q); simp [g]), fun q => (by have g := h.c11 (by simpa using q); simp [g]), fun q => (by have g := h.c32 (by simpa using q); simp [g]), fun q => (by have g := h.c76 (by simpa using q); simp [g])⟩

theorem tw7 {U : World} {a0 : Act} {s X fo fn T : Nat} {bx : Value → Value → Array Value} {ov nv : Value} {ol nl : Nat} {yo yn : List Value} {d : Nat → Bool} {a : Act} {W : World} (h : TwI U a0 s X fo fn T bx ov nv ol nl yo yn d a W) (hs : s + 10 ≤ a0.tmps.size) (hd : d 7 = false) (p4 : d 4 = true) (p3 : d 3 = true) (p6 : d 6 = true) {v : Value} {W' : World} {vA vB : Value} {nA nB : Nat} {xA xB : List Value} (R : TwR U s ol nl yo yn d a W vA nA xA vB nB xB) (O : W'.ownsRow U.heap.size 55 3 v nl yn) (G : W.grownBy W' vB.ownBlock) (hA : v.ownBlock = vB.ownBlock ∨ v.ownBlock = some W.heap.size) (hX : X < U.heap.size) : TwI U a0 s X fo fn T bx ov nv ol nl yo yn (fun j => j == 7 || d j) (a.put (some (s + 7)) v) W' := by
  have hz : a.tmps.size = a0.tmps.size := h.fr.size
  obtain ⟨x, y, k1, k2, k3, k4, k5⟩ := h.box
  have hXW : X < W.heap.size := (Array.getElem?_eq_some_iff.1 k1).1
  have hXu : vB.ownBlock ≠ some X := fun e => by have := (R.B.lt X e).1; omega
  refine ⟨h.fr.put (by omega) (by omega) _, h.below.grown G (Nat.le_of_lt hXW) fun p hp => (by have := (R.B.lt p hp).1; omega), ⟨vA, nA, xA, v, nl, yn, (owns_below R.A fun p hp => G.block p (R.A.lt p hp).2 fun e => R.apart p hp e.symm), O, fun p hp e => (by rcases hA with g | g; (· rw [g] at e; exact R.apart p hp e); (· rw [g] at e; cases e; exact absurd (R.A.lt _ hp).2 (Nat.lt_irrefl _))), fun q r => (by rw [put_ne _ _ _ _ (by omega)]; exact R.a0 (by simpa using q) (by simpa using r)), fun q => (by rw [put_ne _ _ _ _ (by omega)]; exact R.a1 (by simpa using q)), fun _ r => (by simp at r), fun _ => ⟨put_get _ _ _ (by omega), rfl, rfl⟩⟩, fun q => (by rw [put_ne _ _ _ _ (by omega)]; exact h.e1 (by simpa using q)), fun q => (by rw [put_ne _ _ _ _ (by omega)]; exact h.e2 (by simpa using q)), fun q => (by rw [put_ne _ _ _ _ (by omega)]; exact h.e5 (by simpa using q)), fun q => (by rw [put_ne _ _ _ _ (by omega)]; exact h.e6 (by simpa using q)), fun q => (by rw [put_ne _ _ _ _ (by omega)]; exact h.e8 (by simpa using q)), fun q => (by rw [put_ne _ _ _ _ (by omega)]; exact h.e10 (by simpa using q)), ⟨x, y, (G.block X hXW (fun e => hXu e.symm)).trans k1, fun q => k2 (by simpa using q), fun q => (by rw [put_ne _ _ _ _ (by omega)]; exact k3 (by simpa using q)), fun q => k4 (by simpa using q), fun q => (by have q3 := h.c9 (h.c11 (by simpa using q)); rw [hd] at q3; cases q3)⟩, fun q => (by have g := h.c3 (by simpa using q); simp [g]), fun _ => (by simp [p4, p3]), fun q => (by have g := h.c9 (by simpa using q); simp [g]), fun q => (by have g := h.c11 (by simpa using q); simp [g]), fun q => (by have g := h.c32 (by simpa using q); simp [g]), fun _ => (by simp [p6])⟩

theorem tw8 {U : World} {a0 : Act} {s X fo fn T : Nat} {bx : Value → Value → Array Value} {ov nv : Value} {ol nl : Nat} {yo yn : List Value} {d : Nat → Bool} {a : Act} {W : World} (h : TwI U a0 s X fo fn T bx ov nv ol nl yo yn d a W) (hs : s + 10 ≤ a0.tmps.size) (_hd : d 8 = false) {v : Value} (hv : v = .pointer (some ⟨X, fo, none⟩)) : TwI U a0 s X fo fn T bx ov nv ol nl yo yn (fun j => j == 8 || d j) (a.put (some (s + 8)) v) W := by
  have hz : a.tmps.size = a0.tmps.size := h.fr.size
  obtain ⟨vA, nA, xA, vB, nB, xB, R⟩ := h.rows
  obtain ⟨x, y, k1, k2, k3, k4, k5⟩ := h.box
  refine ⟨h.fr.put (by omega) (by omega) _, h.below, ⟨vA, nA, xA, vB, nB, xB, R.A, R.B, R.apart, fun q r => (by rw [put_ne _ _ _ _ (by omega)]; exact R.a0 (by simpa using q) (by simpa using r)), fun q => (by rw [put_ne _ _ _ _ (by omega)]; exact R.a1 (by simpa using q)), fun q r => (by rw [put_ne _ _ _ _ (by omega)]; exact R.b0 (by simpa using q) (by simpa using r)), fun q => (by rw [put_ne _ _ _ _ (by omega)]; exact R.b1 (by simpa using q))⟩, fun q => (by rw [put_ne _ _ _ _ (by omega)]; exact h.e1 (by simpa using q)), fun q => (by rw [put_ne _ _ _ _ (by omega)]; exact h.e2 (by simpa using q)), fun q => (by rw [put_ne _ _ _ _ (by omega)]; exact h.e5 (by simpa using q)), fun q => (by rw [put_ne _ _ _ _ (by omega)]; exact h.e6 (by simpa using q)), fun _ => (put_get _ _ _ (by omega)).trans hv, fun q => (by rw [put_ne _ _ _ _ (by omega)]; exact h.e10 (by simpa using q)), ⟨x, y, k1, fun q => k2 (by simpa using q), fun q => (by rw [put_ne _ _ _ _ (by omega)]; exact k3 (by simpa using q)), fun q => k4 (by simpa using q), fun q => (by rw [put_ne _ _ _ _ (by omega)]; exact k5 (by simpa using q))⟩, fun q => (by have g := h.c3 (by simpa using q); simp [g]), fun q => (by have g := h.c7 (by simpa using q); simp [g.1, g.2]), fun q => (by have g := h.c9 (by simpa using q); simp [g]), fun q => (by have g := h.c11 (by simpa using q); simp [g]), fun q => (by have g := h.c32 (by simpa using q); simp [g]), fun q => (by have g := h.c76 (by simpa using q); simp [g])⟩

theorem tw9 {U : World} {a0 : Act} {s X fo fn T : Nat} {bx : Value → Value → Array Value} {ov nv : Value} {ol nl : Nat} {yo yn : List Value} {d : Nat → Bool} {a : Act} {W : World} (h : TwI U a0 s X fo fn T bx ov nv ol nl yo yn d a W) (_hs : s + 10 ≤ a0.tmps.size) (_hd : d 9 = false) (p7 : d 7 = true) {v : Value} (hv : a.eval (.tmp (s + 3)) = v) (hX : X < U.heap.size) (hset : ∀ x y z, (bx x y).setIfInBounds fo z = bx z y) : TwI U a0 s X fo fn T bx ov nv ol nl yo yn (fun j => j == 9 || d j) a (W.setCell ⟨X, fo, none⟩ v) := by
  obtain ⟨vA, nA, xA, vB, nB, xB, R⟩ := h.rows
  obtain ⟨x, y, k1, k2, k3, k4, k5⟩ := h.box
  refine ⟨h.fr, h.below.setCell (Nat.le_refl _) _, ⟨vA, nA, xA, vB, nB, xB, (owns_below R.A fun p hp => heap_setCell_other _ _ _ _ (fun e => by have := (R.A.lt p hp).1; have e' : p = X := e; omega)), (owns_below R.B fun p hp => heap_setCell_other _ _ _ _ (fun e => by have := (R.B.lt p hp).1; have e' : p = X := e; omega)), R.apart, fun q r => (by exact R.a0 (by simpa using q) (by simpa using r)), fun q => (by exact R.a1 (by simpa using q)), fun q r => (by exact R.b0 (by simpa using q) (by simpa using r)), fun q => (by exact R.b1 (by simpa using q))⟩, fun q => (by exact h.e1 (by simpa using q)), fun q => (by exact h.e2 (by simpa using q)), fun q => (by exact h.e5 (by simpa using q)), fun q => (by exact h.e6 (by simpa using q)), fun q => (by exact h.e8 (by simpa using q)), fun q => (by exact h.e10 (by simpa using q)), ⟨v, y, (by rw [heap_setCell_same _ _ _ _ _ _ k1, hset]), fun q => (by simp at q), fun _ => hv, fun q => k4 (by simpa using q), fun q => (by exact k5 (by simpa using q))⟩, fun q => (by have g := h.c3 (by simpa using q); simp [g]), fun q => (by have g := h.c7 (by simpa using q); simp [g.1, g.2]), fun _ => (by simp [p7]), fun q => (by have g := h.c11 (by simpa using q); simp [g]), fun q => (by have g := h.c32 (by simpa using q); simp [g]), fun q => (by have g := h.c76 (by simpa using q); simp [g])⟩

theorem tw10 {U : World} {a0 : Act} {s X fo fn T : Nat} {bx : Value → Value → Array Value} {ov nv : Value} {ol nl : Nat} {yo yn : List Value} {d : Nat → Bool} {a : Act} {W : World} (h : TwI U a0 s X fo fn T bx ov nv ol nl yo yn d a W) (hs : s + 10 ≤ a0.tmps.size) (_hd : d 10 = false) {v : Value} (hv : v = .pointer (some ⟨X, fn, none⟩)) : TwI U a0 s X fo fn T bx ov nv ol nl yo yn (fun j => j == 10 || d j) (a.put (some (s + 9)) v) W := by
  have hz : a.tmps.size = a0.tmps.size := h.fr.size
  obtain ⟨vA, nA, xA, vB, nB, xB, R⟩ := h.rows
  obtain ⟨x, y, k1, k2, k3, k4, k5⟩ := h.box
  refine ⟨h.fr.put (by omega) (by omega) _, h.below, ⟨vA, nA, xA, vB, nB, xB, R.A, R.B, R.apart, fun q r => (by rw [put_ne _ _ _ _ (by omega)]; exact R.a0 (by simpa using q) (by simpa using r)), fun q => (by rw [put_ne _ _ _ _ (by omega)]; exact R.a1 (by simpa using q)), fun q r => (by rw [put_ne _ _ _ _ (by omega)]; exact R.b0 (by simpa using q) (by simpa using r)), fun q => (by rw [put_ne _ _ _ _ (by omega)]; exact R.b1 (by simpa using q))⟩, fun q => (by rw [put_ne _ _ _ _ (by omega)]; exact h.e1 (by simpa using q)), fun q => (by rw [put_ne _ _ _ _ (by omega)]; exact h.e2 (by simpa using q)), fun q => (by rw [put_ne _ _ _ _ (by omega)]; exact h.e5 (by simpa using q)), fun q => (by rw [put_ne _ _ _ _ (by omega)]; exact h.e6 (by simpa using q)), fun q => (by rw [put_ne _ _ _ _ (by omega)]; exact h.e8 (by simpa using q)), fun _ => (put_get _ _ _ (by omega)).trans hv, ⟨x, y, k1, fun q => k2 (by simpa using q), fun q => (by rw [put_ne _ _ _ _ (by omega)]; exact k3 (by simpa using q)), fun q => k4 (by simpa using q), fun q => (by rw [put_ne _ _ _ _ (by omega)]; exact k5 (by simpa using q))⟩, fun q => (by have g := h.c3 (by simpa using q); simp [g]), fun q => (by have g := h.c7 (by simpa using q); simp [g.1, g.2]), fun q => (by have g := h.c9 (by simpa using q); simp [g]), fun q => (by have g := h.c11 (by simpa using q); simp [g]), fun q => (by have g := h.c32 (by simpa using q); simp [g]), fun q => (by have g := h.c76 (by simpa using q); simp [g])⟩

theorem tw11 {U : World} {a0 : Act} {s X fo fn T : Nat} {bx : Value → Value → Array Value} {ov nv : Value} {ol nl : Nat} {yo yn : List Value} {d : Nat → Bool} {a : Act} {W : World} (h : TwI U a0 s X fo fn T bx ov nv ol nl yo yn d a W) (_hs : s + 10 ≤ a0.tmps.size) (_hd : d 11 = false) (p9 : d 9 = true) {v : Value} (hv : a.eval (.tmp (s + 7)) = v) (hX : X < U.heap.size) (hset : ∀ x y z, (bx x y).setIfInBounds fn z = bx x z) : TwI U a0 s X fo fn T bx ov nv ol nl yo yn (fun j => j == 11 || d j) a (W.setCell ⟨X, fn, none⟩ v) := by
  obtain ⟨vA, nA, xA, vB, nB, xB, R⟩ := h.rows
  obtain ⟨x, y, k1, k2, k3, k4, k5⟩ := h.box
  refine ⟨h.fr, h.below.setCell (Nat.le_refl _) _, ⟨vA, nA, xA, vB, nB, xB, (owns_below R.A fun p hp => heap_setCell_other _ _ _ _ (fun e => by have := (R.A.lt p hp).1; have e' : p = X := e; omega)), (owns_below R.B fun p hp => heap_setCell_other _ _ _ _ (fun e => by have := (R.B.lt p hp).1; have e' : p = X := e; omega)), R.apart, fun q r => (by exact R.a0 (by simpa using q) (by simpa using r)), fun q => (by exact R.a1 (by simpa using q)), fun q r => (by exact R.b0 (by simpa using q) (by simpa using r)), fun q => (by exact R.b1 (by simpa using q))⟩, fun q => (by exact h.e1 (by simpa using q)), fun q => (by exact h.e2 (by simpa using q)), fun q => (by exact h.e5 (by simpa using q)), fun q => (by exact h.e6 (by simpa using q)), fun q => (by exact h.e8 (by simpa using q)), fun q => (by exact h.e10 (by simpa using q)), ⟨x, v, (by rw [heap_setCell_same _ _ _ _ _ _ k1, hset]), fun q => k2 (by simpa using q), fun q => (by exact k3 (by simpa using q)), fun q => (by simp at q), fun _ => hv⟩, fun q => (by have g := h.c3 (by simpa using q); simp [g]), fun q => (by have g := h.c7 (by simpa using q); simp [g.1, g.2]), fun q => (by have g := h.c9 (by simpa using q); simp [g]), fun _ => (by simp [p9]), fun q => (by have g := h.c32 (by simpa using q); simp [g]), fun q => (by have g := h.c76 (by simpa using q); simp [g])⟩


theorem tw_start {U : World} {a0 : Act} {s X fo fn T : Nat} {bx : Value → Value → Array Value} {ov nv : Value} {ol nl : Nat} {yo yn : List Value} (hbox : U.heap[X]? = some (.cells (bx ov nv) T (0, 0))) : TwI U a0 s X fo fn T bx ov nv ol nl yo yn (fun _ => false) a0 U.drew :=
  ⟨Frm.refl _ _ _, (Below.refl _ _).drew, ⟨.slice none 0 0, 0, [], .slice none 0 0, 0, [], World.ownsRow_nil _ _ _ _, World.ownsRow_nil _ _ _ _, fun _ h => (by cases h), fun h => (by cases h), fun h => (by cases h), fun h => (by cases h), fun h => (by cases h)⟩, fun h => (by cases h), fun h => (by cases h), fun h => (by cases h), fun h => (by cases h), fun h => (by cases h), fun h => (by cases h), ⟨ov, nv, hbox, fun _ => rfl, fun h => (by cases h), fun _ => rfl, fun h => (by cases h)⟩, fun h => (by cases h), fun h => (by cases h), fun h => (by cases h), fun h => (by cases h), fun h => (by cases h), fun h => (by cases h)⟩

/-- The law. -/
theorem two_copies {ops : Array Oper} {Q : Exit → Act → World → Prop} {id : Nat} {a0 : Act} {U : World} {s xs X fo fn T : Nat} {bx : Value → Value → Array Value} {oa na : Option Addr} {ol oc nl nc : Nat} {yo yn : List Value}
    (hm : Try.prog.follows .mixedOrders = true) (hops : TwOps ops s xs fo fn T) (hs : s + 10 ≤ a0.tmps.size) (hxs : xs < s) (hx : a0.eval (.tmp xs) = .pointer (some ⟨X, 0, none⟩)) (hbox : U.heap[X]? = some (.cells (bx (.slice oa ol oc) (.slice na nl nc)) T (0, 0)))
    (hc1 : ∀ x y, (bx x y)[fo]? = some x) (hc2 : ∀ x y, (bx x y)[fn]? = some y) (hset1 : ∀ x y z, (bx x y).setIfInBounds fo z = bx z y) (hset2 : ∀ x y z, (bx x y).setIfInBounds fn z = bx x z)
    (hS1 : ∀ W, Below X U W → Src W oa ol oc yo) (hS2 : ∀ W, Below X U W → Src W na nl nc yn) (hl1 : yo.length = ol * 3) (hl2 : yn.length = nl * 3) (h1 : ∀ u ∈ yo, u.oneCell' = true) (h2 : ∀ u ∈ yn, u.oneCell' = true) (hn1 : ol ≤ 1000) (hn2 : nl ≤ 1000)
    (hfa : ∀ f, f = fo ∨ f = fn → ∀ (o : Oper) (a : Act) (w : World) (K : Act → World → Prop), o.op = .fieldAddr T (.tmp xs) f → a.eval (.tmp xs) = .pointer (some ⟨X, 0, none⟩) → K (a.put o.dst (.pointer (some ⟨X, f, none⟩))) w → Oper.wp Try.prog o a w K Q)
    (hQ : ∀ v0 v1 v2 v3 v4 v5 v6 v7 v8 v9 W a5 k5 a7 k7, Below X U W → W.heap[X]? = some (.cells (bx (.slice a5 ol k5) (.slice a7 nl k7)) T (0, 0)) → W.ownsRow U.heap.size 55 3 (.slice a5 ol k5) ol yo → W.ownsRow U.heap.size 55 3 (.slice a7 nl k7) nl yn → (∀ p, Value.ownBlock (.slice a5 ol k5) = some p → Value.ownBlock (.slice a7 nl k7) ≠ some p) →
      Q .normal ((((((((((a0.put (some s) v0).put (some (s + 1)) v1).put (some (s + 2)) v2).put (some (s + 3)) v3).put (some (s + 4)) v4).put (some (s + 5)) v5).put (some (s + 6)) v6).put (some (s + 7)) v7).put (some (s + 8)) v8).put (some (s + 9)) v9) W) :
    (Code.region id ops true).wp Try.prog Q a0 U := by
  have hX : X < U.heap.size := (Array.getElem?_eq_some_iff.1 hbox).1
  refine wp_region_inv (TwI U a0 s X fo fn T bx (.slice oa ol oc) (.slice na nl nc) ol nl yo yn) hm hops.low (tw_start hbox) ?_ ?_
  · intro d a w i o ho hd hdep hI
    have hxe : a.eval (.tmp xs) = .pointer (some ⟨X, 0, none⟩) := (hI.fr.eval (Or.inl hxs)).trans hx
    have hi : i < 12 := by have := (Array.getElem?_eq_some_iff.1 ho).1; rw [hops.size] at this; exact this
    have hcase : i = 0 ∨ i = 1 ∨ i = 2 ∨ i = 3 ∨ i = 4 ∨ i = 5 ∨ i = 6 ∨ i = 7 ∨ i = 8 ∨ i = 9 ∨ i = 10 ∨ i = 11 := by omega
    rcases hcase with rfl | rfl | rfl | rfl | rfl | rfl | rfl | rfl | rfl | rfl | rfl | rfl
    · obtain ⟨o', ho', g1, g2, g3⟩ := hops.o0
      rw [ho] at ho'; cases ho'
      refine wpOp_of ho g3 (op_build g1 ?_)
      rw [g2]
      exact tw0 hI hs hd rfl
    · obtain ⟨o', ho', g1, g2, g3⟩ := hops.o1
      rw [ho] at ho'; cases ho'
      refine wpOp_of ho g3 (hfa fo (Or.inl rfl) _ _ _ _ g1 hxe ?_)
      rw [g2]
      exact tw1 hI hs hd rfl
    · obtain ⟨o', ho', g1, g2, g3, g4⟩ := hops.o2
      rw [ho] at ho'; cases ho'
      obtain ⟨x, y, k1, k2, k3, k4, k5⟩ := hI.box
      have h9 : d 9 = false := by
        cases e : d 9 with
        | false => rfl
        | true => exact absurd (hI.c32 (hI.c7 (hI.c9 e)).2) (by rw [hd]; simp)
      refine wpOp_of ho g3 (op_load g1 (hI.e1 (dep g4 hdep)) (v := .slice oa ol oc) ?_ ?_)
      · rw [cell_of_row _ _ _ _ _ _ k1, hc1, k2 h9]
      · rw [g2]
        exact tw2 hI hs hd rfl
    · obtain ⟨o', ho', g1, g2, g3, g4, g5⟩ := hops.o3
      rw [ho] at ho'; cases ho'
      obtain ⟨vA, nA, xA, vB, nB, xB, R⟩ := hI.rows
      obtain ⟨q1, rfl, rfl⟩ := R.a0 (dep g4 hdep) hd
      refine wpOp_of ho g3 (op_append (.tmp s) (.tmp (s + 2)) g1 U.heap.size hI.below.size vA 0 [] q1 R.A oa ol oc yo (hI.e2 (dep g5 hdep)) (hS1 _ hI.below) hl1 h1 (by omega) ?_)
      intro v' W' O G A
      rw [Nat.zero_add, List.nil_append] at O
      rw [g2]
      exact tw3 hI hs hd (dep g4 hdep) (dep g5 hdep) R O G A hX
    · obtain ⟨o', ho', g1, g2, g3⟩ := hops.o4
      rw [ho] at ho'; cases ho'
      refine wpOp_of ho g3 (op_build g1 ?_)
      rw [g2]
      exact tw4 hI hs hd rfl
    · obtain ⟨o', ho', g1, g2, g3⟩ := hops.o5
      rw [ho] at ho'; cases ho'
      refine wpOp_of ho g3 (hfa fn (Or.inr rfl) _ _ _ _ g1 hxe ?_)
      rw [g2]
      exact tw5 hI hs hd rfl
    · obtain ⟨o', ho', g1, g2, g3, g4⟩ := hops.o6
      rw [ho] at ho'; cases ho'
      obtain ⟨x, y, k1, k2, k3, k4, k5⟩ := hI.box
      have h11 : d 11 = false := by
        cases e : d 11 with
        | false => rfl
        | true => exact absurd (hI.c76 (hI.c9 (hI.c11 e))) (by rw [hd]; simp)
      refine wpOp_of ho g3 (op_load g1 (hI.e5 (dep g4 hdep)) (v := .slice na nl nc) ?_ ?_)
      · rw [cell_of_row _ _ _ _ _ _ k1, hc2, k4 h11]
      · rw [g2]
        exact tw6 hI hs hd rfl
    · obtain ⟨o', ho', g1, g2, g3, g4, g5, g6⟩ := hops.o7
      rw [ho] at ho'; cases ho'
      obtain ⟨vA, nA, xA, vB, nB, xB, R⟩ := hI.rows
      obtain ⟨q1, rfl, rfl⟩ := R.b0 (dep g4 hdep) hd
      refine wpOp_of ho g3 (op_append (.tmp (s + 4)) (.tmp (s + 6)) g1 U.heap.size hI.below.size vB 0 [] q1 R.B na nl nc yn (hI.e6 (dep g5 hdep)) (hS2 _ hI.below) hl2 h2 (by omega) ?_)
      intro v' W' O G A
      rw [Nat.zero_add, List.nil_append] at O
      rw [g2]
      exact tw7 hI hs hd (dep g4 hdep) (dep g6 hdep) (dep g5 hdep) R O G A hX
    · obtain ⟨o', ho', g1, g2, g3⟩ := hops.o8
      rw [ho] at ho'; cases ho'
      refine wpOp_of ho g3 (hfa fo (Or.inl rfl) _ _ _ _ g1 hxe ?_)
      rw [g2]
      exact tw8 hI hs hd rfl
    · obtain ⟨o', ho', g1, g2, g3, g4, g5, g6⟩ := hops.o9
      rw [ho] at ho'; cases ho'
      obtain ⟨x, y, k1, k2, k3, k4, k5⟩ := hI.box
      obtain ⟨vA, nA, xA, vB, nB, xB, R⟩ := hI.rows
      have p7 := dep g5 hdep
      obtain ⟨q1, rfl, rfl⟩ := R.a1 (hI.c7 p7).2
      obtain ⟨a5, k5', rfl⟩ := owns_slice R.A
      refine wpOp_of ho g3 (op_store g1 g2 (hI.e8 (dep g4 hdep)) q1 (cell_of_row _ _ _ _ _ _ k1 |>.trans (hc1 _ _)) (frozen_of_row _ _ _ _ _ k1) ?_)
      exact tw9 hI hs hd p7 q1 hX hset1
    · obtain ⟨o', ho', g1, g2, g3⟩ := hops.o10
      rw [ho] at ho'; cases ho'
      refine wpOp_of ho g3 (hfa fn (Or.inr rfl) _ _ _ _ g1 hxe ?_)
      rw [g2]
      exact tw10 hI hs hd rfl
    · obtain ⟨o', ho', g1, g2, g3, g4, g5⟩ := hops.o11
      rw [ho] at ho'; cases ho'
      obtain ⟨x, y, k1, k2, k3, k4, k5⟩ := hI.box
      obtain ⟨vA, nA, xA, vB, nB, xB, R⟩ := hI.rows
      have p9 := dep g5 hdep
      obtain ⟨q1, rfl, rfl⟩ := R.b1 (hI.c9 p9)
      obtain ⟨a5, k5', rfl⟩ := owns_slice R.B
      refine wpOp_of ho g3 (op_store g1 g2 (hI.e10 (dep g4 hdep)) q1 (cell_of_row _ _ _ _ _ _ k1 |>.trans (hc2 _ _)) (frozen_of_row _ _ _ _ _ k1) ?_)
      exact tw11 hI hs hd p9 q1 hX hset2
  · intro d a w hall hI
    rw [hops.size] at hall
    obtain ⟨x, y, k1, k2, k3, k4, k5⟩ := hI.box
    obtain ⟨vA, nA, xA, vB, nB, xB, R⟩ := hI.rows
    obtain ⟨q1, rfl, rfl⟩ := R.a1 (hall 3 (by omega))
    obtain ⟨q2, rfl, rfl⟩ := R.b1 (hall 7 (by omega))
    have ex := (k3 (hall 9 (by omega))).symm.trans q1
    have ey := (k5 (hall 11 (by omega))).symm.trans q2
    subst ex
    subst ey
    obtain ⟨a5, c5, rfl⟩ := owns_slice R.A
    obtain ⟨a7, c7, rfl⟩ := owns_slice R.B
    obtain ⟨v0, v1, v2, v3, v4, v5, v6, v7, v8, v9, e⟩ := hI.fr.ten hs
    rw [e]
    exact hQ v0 v1 v2 v3 v4 v5 v6 v7 v8 v9 w a5 c5 a7 c7 hI.below k1 R.A R.B R.apart

end Go.Proofs.Ytmcbpopeinabcaa.Rw
