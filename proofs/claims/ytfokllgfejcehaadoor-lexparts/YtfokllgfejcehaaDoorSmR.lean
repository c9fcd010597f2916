/-
  The region x, y := a[i], b[i] (two tokens), whose order is drawn: by an invariant over what is done. Printed by gen_smr.py.
-/
import Derived.Test.YtfokllgfejcehaaDoorLxK
import Derived.Test.YtfokllgfejcehaaDoorInvS
namespace Go.Proofs.YtfokllgfejcehaaDoor
open Go Go.RowKit Rw

/-- The slots outside of a list are as they were. -/
structure FrmS (S : List Nat) (a0 a : Act) : Prop where
  defers : a.defers = a0.defers
  size : a.tmps.size = a0.tmps.size
  at' : ∀ t, t ∉ S → a.tmps[t]? = a0.tmps[t]?

theorem FrmS.refl (S : List Nat) (a : Act) : FrmS S a a := ⟨rfl, rfl, fun _ _ => rfl⟩
theorem FrmS.put {S : List Nat} {a0 a : Act} (h : FrmS S a0 a) {t : Nat} (ht : t ∈ S) (v : Value) : FrmS S a0 (a.put (some t) v) :=
  ⟨h.defers, by rw [put_size]; exact h.size, fun u hu => by
    show (a.tmps.setIfInBounds t v)[u]? = _
    rw [Array.getElem?_setIfInBounds_ne (by rintro rfl; exact hu ht)]; exact h.at' u hu⟩
theorem FrmS.eval {S : List Nat} {a0 a : Act} (h : FrmS S a0 a) {t : Nat} (ht : t ∉ S) : a.eval (.tmp t) = a0.eval (.tmp t) := by
  have e := h.at' t ht
  show a.tmps.getD t undef = a0.tmps.getD t undef
  simp [Array.getD_eq_getD_getElem?, e]

def putAll (a : Act) : List Nat → Act → Act
  | [], b => b
  | t :: S, b => putAll a S (b.put (some t) (a.eval (.tmp t)))

theorem putAll_size (a : Act) : ∀ (S : List Nat) (b : Act), (putAll a S b).tmps.size = b.tmps.size
  | [], _ => rfl
  | t :: S, b => by rw [putAll, putAll_size a S, put_size]
theorem putAll_defers (a : Act) : ∀ (S : List Nat) (b : Act), (putAll a S b).defers = b.defers
  | [], _ => rfl
  | t :: S, b => by rw [putAll, putAll_defers a S]; rfl
theorem putAll_out (a : Act) : ∀ (S : List Nat) (b : Act) (t : Nat), t ∉ S → (putAll a S b).tmps[t]? = b.tmps[t]?
  | [], _, _, _ => rfl
  | s :: S, b, t, h => by
    rw [putAll, putAll_out a S _ t (fun e => h (List.mem_cons_of_mem _ e))]
    show (b.tmps.setIfInBounds s _)[t]? = _
    rw [Array.getElem?_setIfInBounds_ne (by rintro rfl; exact h List.mem_cons_self)]
theorem putAll_in (a : Act) : ∀ (S : List Nat) (b : Act) (t : Nat), t ∈ S → t < b.tmps.size → (putAll a S b).tmps[t]? = some (a.eval (.tmp t))
  | s :: S, b, t, h, hb => by
    by_cases hS : t ∈ S
    · rw [putAll]
      exact putAll_in a S _ t hS (by rw [put_size]; exact hb)
    · have : t = s := (List.mem_cons.1 h).resolve_right hS
      subst this
      rw [putAll, putAll_out a S _ t hS]
      show (b.tmps.setIfInBounds t _)[t]? = _
      simp [hb]

theorem FrmS.all {S : List Nat} {a0 a : Act} (h : FrmS S a0 a) (hs : ∀ t ∈ S, t < a0.tmps.size) : a = putAll a S a0 := by
  have e1 : a.tmps = (putAll a S a0).tmps := by
    refine Array.ext_getElem? fun t => ?_
    by_cases ht : t ∈ S
    · rw [putAll_in a S a0 t ht (hs t ht)]
      have hl : t < a.tmps.size := by rw [h.size]; exact hs t ht
      rw [Array.getElem?_eq_getElem hl]
      show _ = some (a.tmps.getD t undef)
      simp [Array.getD_eq_getD_getElem?, hl]
    · rw [putAll_out a S a0 t ht, h.at' t ht]
  have e2 : a.defers = (putAll a S a0).defers := by rw [putAll_defers, h.defers]
  cases a
  cases hp : putAll _ S a0
  rw [hp] at e1 e2
  simp only at e1 e2
  rw [e1, e2]

def smS : List Nat := [8, 9, 21, 22, 23, 24, 25, 26, 27, 28]
def zTC : Array Value := #[.int .i64 0, .int .i64 0, .int .i64 0, .string ⟨#[]⟩]
def tkA (t : Tk) : Array Value := #[.int .i64 t.kind, .int .i64 t.n, .int .i64 t.pl, .string t.s]

section
variable {Q : Exit → Act → World → Prop} {K : Act → World → Prop}
theorem sop_move {o : Oper} {a : Act} {w : World} {s : Nat} {v : Value} (ho : o.op = .move (.tmp s)) (hs : a.eval (.tmp s) = v) (hK : K (a.put o.dst v) w) : Oper.wp Tryd.prog o a w K Q := by
  have hs' : a.tmps[s]?.getD undef = v := by simpa [Act.eval] using hs
  unfold Oper.wp
  simp [execOp, ho, go_sem, hs']
  exact hK
theorem sop_index {o : Oper} {a : Act} {w : World} {s t b of n c j : Nat} (ho : o.op = .indexAddr 29 (.tmp s) (.tmp t)) (hs : a.eval (.tmp s) = .slice (some ⟨b, of, none⟩) n c) (ht : a.eval (.tmp t) = .int .i64 j) (hj : j < n) (hK : K (a.put o.dst (.pointer (some ⟨b, of + j * 4, none⟩))) w) : Oper.wp Tryd.prog o a w K Q := by
  have hs' : a.tmps[s]?.getD undef = .slice (some ⟨b, of, none⟩) n c := by simpa [Act.eval] using hs
  have ht' : a.tmps[t]?.getD undef = .int .i64 j := by simpa [Act.eval] using ht
  have h1 : (0 : Int) ≤ (j : Int) ∧ (j : Int) < n := by omega
  unfold Oper.wp
  simp [execOp, ho, go_sem, hs', ht', h1]
  exact hK
theorem sop_load {o : Oper} {a : Act} {w : World} {s b of : Nat} {x : Tk} (ho : o.op = .load 46 (.tmp s)) (hs : a.eval (.tmp s) = .pointer (some ⟨b, of, none⟩)) (c0 : w.cell? ⟨b, of, none⟩ = some (.int .i64 x.kind)) (c1 : w.cell? ⟨b, of + 1, none⟩ = some (.int .i64 x.n)) (c2 : w.cell? ⟨b, of + 2, none⟩ = some (.int .i64 x.pl)) (c3 : w.cell? ⟨b, of + 3, none⟩ = some (.string x.s)) (hK : K (a.put o.dst (.agg (tkA x))) w) : Oper.wp Tryd.prog o a w K Q := by
  have hs' : a.tmps[s]?.getD undef = .pointer (some ⟨b, of, none⟩) := by simpa [Act.eval] using hs
  unfold Oper.wp
  simp [execOp, ho, go_sem, hs', c0, c1, c2, c3]
  exact hK
theorem sop_alloc {o : Oper} {a : Act} {w : World} (ho : o.op = .alloc 46) (hK : K (a.put o.dst (.pointer (some ⟨w.heap.size, 0, none⟩))) (w.alloc (.cells zTC 46))) : Oper.wp Tryd.prog o a w K Q := by
  unfold Oper.wp
  simp [execOp, ho, go_sem]
  exact hK
theorem sop_store {o : Oper} {a : Act} {w : World} {s t p : Nat} {x : Tk} (ho : o.op = .store 46 (.tmp s) (.tmp t)) (hd : o.dst = none) (hs : a.eval (.tmp s) = .pointer (some ⟨p, 0, none⟩)) (ht : a.eval (.tmp t) = .agg (tkA x)) (hp : w.heap[p]? = some (.cells zTC 46 (0, 0))) (hK : K a ((((w.setCell ⟨p, 0, none⟩ (.int .i64 x.kind)).setCell ⟨p, 1, none⟩ (.int .i64 x.n)).setCell ⟨p, 2, none⟩ (.int .i64 x.pl)).setCell ⟨p, 3, none⟩ (.string x.s))) : Oper.wp Tryd.prog o a w K Q := by
  have hs' : a.tmps[s]?.getD undef = .pointer (some ⟨p, 0, none⟩) := by simpa [Act.eval] using hs
  have ht' : a.tmps[t]?.getD undef = .agg (tkA x) := by simpa [Act.eval] using ht
  have c0 : w.cell? ⟨p, 0, none⟩ = some (.int .i64 0) := cell_of_row _ _ _ _ _ _ hp
  have c1 : w.cell? ⟨p, 1, none⟩ = some (.int .i64 0) := cell_of_row _ _ _ _ _ _ hp
  have c2 : w.cell? ⟨p, 2, none⟩ = some (.int .i64 0) := cell_of_row _ _ _ _ _ _ hp
  have c3 : w.cell? ⟨p, 3, none⟩ = some (.string ⟨#[]⟩) := cell_of_row _ _ _ _ _ _ hp
  have f0 : w.frozen? ⟨p, 0, none⟩ = false := frozen_of_row _ _ _ _ _ hp
  have f1 : w.frozen? ⟨p, 1, none⟩ = false := frozen_of_row _ _ _ _ _ hp
  have f2 : w.frozen? ⟨p, 2, none⟩ = false := frozen_of_row _ _ _ _ _ hp
  have f3 : w.frozen? ⟨p, 3, none⟩ = false := frozen_of_row _ _ _ _ _ hp
  unfold Oper.wp
  simp [execOp, ho, go_sem, hs', ht', tkA, c0, c1, c2, c3, f0, f1, f2, f3]
  rw [hd]
  exact hK
end

theorem store_at {w : World} {p : Nat} (x : Tk) (hp : w.heap[p]? = some (.cells zTC 46 (0, 0))) : ((((w.setCell ⟨p, 0, none⟩ (.int .i64 x.kind)).setCell ⟨p, 1, none⟩ (.int .i64 x.n)).setCell ⟨p, 2, none⟩ (.int .i64 x.pl)).setCell ⟨p, 3, none⟩ (.string x.s)).heap[p]? = some (.cells (tkA x) 46 (0, 0)) := by
  have h1 := heap_setCell_same _ _ 0 _ _ (.int .i64 x.kind) hp
  have h2 := heap_setCell_same _ _ 1 _ _ (.int .i64 x.n) h1
  have h3 := heap_setCell_same _ _ 2 _ _ (.int .i64 x.pl) h2
  exact heap_setCell_same _ _ 3 _ _ (.string x.s) h3
theorem store_ne {w : World} {p q : Nat} (x : Tk) (h : q ≠ p) : ((((w.setCell ⟨p, 0, none⟩ (.int .i64 x.kind)).setCell ⟨p, 1, none⟩ (.int .i64 x.n)).setCell ⟨p, 2, none⟩ (.int .i64 x.pl)).setCell ⟨p, 3, none⟩ (.string x.s)).heap[q]? = w.heap[q]? := by
  rw [heap_setCell_other _ _ _ _ h, heap_setCell_other _ _ _ _ h, heap_setCell_other _ _ _ _ h, heap_setCell_other _ _ _ _ h]

/-- A variable of the region's: where it lies, what it holds. -/
structure Vr (U : World) (v : Value) (x : Tk) (st : Bool) (W : World) (p : Nat) : Prop where
  ev : v = .pointer (some ⟨p, 0, none⟩)
  new : U.heap.size ≤ p
  z : st = false → W.heap[p]? = some (.cells zTC 46 (0, 0))
  f : st = true → W.heap[p]? = some (.cells (tkA x) 46 (0, 0))
theorem Vr.lt {U : World} {v : Value} {x : Tk} {st : Bool} {W : World} {p : Nat} (h : Vr U v x st W p) : p < W.heap.size := by
  cases st
  · exact (Array.getElem?_eq_some_iff.1 (h.z rfl)).1
  · exact (Array.getElem?_eq_some_iff.1 (h.f rfl)).1
theorem Vr.keep {U : World} {v : Value} {x : Tk} {st : Bool} {W W' : World} {p : Nat} (h : Vr U v x st W p) (hb : W'.heap[p]? = W.heap[p]?) : Vr U v x st W' p := ⟨h.ev, h.new, fun q => hb.trans (h.z q), fun q => hb.trans (h.f q)⟩

structure SmI (U : World) (a0 : Act) (b1 o1 n c b2 o2 e j : Nat) (x y : Tk) (d : Nat → Bool) (a : Act) (W : World) : Prop where
  fr : FrmS smS a0 a
  bel : Below U.heap.size U W
  e0 : d 0 = true → a.eval (.tmp 21) = .slice (some ⟨b1, o1, none⟩) n c
  e1 : d 1 = true → a.eval (.tmp 22) = .int .i64 j
  e2 : d 2 = true → a.eval (.tmp 23) = .pointer (some ⟨b1, o1 + j * 4, none⟩)
  e3 : d 3 = true → a.eval (.tmp 24) = .agg (tkA x)
  e4 : d 4 = true → a.eval (.tmp 25) = .slice (some ⟨b2, o2, none⟩) n e
  e5 : d 5 = true → a.eval (.tmp 26) = .int .i64 j
  e6 : d 6 = true → a.eval (.tmp 27) = .pointer (some ⟨b2, o2 + j * 4, none⟩)
  e7 : d 7 = true → a.eval (.tmp 28) = .agg (tkA y)
  e8 : d 8 = true → ∃ p, Vr U (a.eval (.tmp 8)) x (d 10) W p
  e9 : d 9 = true → ∃ p, Vr U (a.eval (.tmp 9)) y (d 11) W p
  ap : d 8 = true → d 9 = true → a.eval (.tmp 8) ≠ a.eval (.tmp 9)
  c10 : d 10 = true → d 8 = true
  c11 : d 11 = true → d 9 = true

/-- What the region's operations are. -/
structure SmOps (ops : Array Oper) : Prop where
  o0 : ∃ o, ops[0]? = some o ∧ o.op = .move (.tmp 0) ∧ o.dst = some 21 ∧ o.guard = none
  o1 : ∃ o, ops[1]? = some o ∧ o.op = .move (.tmp 7) ∧ o.dst = some 22 ∧ o.guard = none
  o2 : ∃ o, ops[2]? = some o ∧ o.op = .indexAddr 29 (.tmp 21) (.tmp 22) ∧ o.dst = some 23 ∧ o.guard = none ∧ (∃ e ∈ o.after, Region.binds .any e = true ∧ e.on = 0) ∧ (∃ e ∈ o.after, Region.binds .any e = true ∧ e.on = 1)
  o3 : ∃ o, ops[3]? = some o ∧ o.op = .load 46 (.tmp 23) ∧ o.dst = some 24 ∧ o.guard = none ∧ (∃ e ∈ o.after, Region.binds .any e = true ∧ e.on = 2)
  o4 : ∃ o, ops[4]? = some o ∧ o.op = .move (.tmp 1) ∧ o.dst = some 25 ∧ o.guard = none
  o5 : ∃ o, ops[5]? = some o ∧ o.op = .move (.tmp 7) ∧ o.dst = some 26 ∧ o.guard = none
  o6 : ∃ o, ops[6]? = some o ∧ o.op = .indexAddr 29 (.tmp 25) (.tmp 26) ∧ o.dst = some 27 ∧ o.guard = none ∧ (∃ e ∈ o.after, Region.binds .any e = true ∧ e.on = 4) ∧ (∃ e ∈ o.after, Region.binds .any e = true ∧ e.on = 5)
  o7 : ∃ o, ops[7]? = some o ∧ o.op = .load 46 (.tmp 27) ∧ o.dst = some 28 ∧ o.guard = none ∧ (∃ e ∈ o.after, Region.binds .any e = true ∧ e.on = 6)
  o8 : ∃ o, ops[8]? = some o ∧ o.op = .alloc 46 ∧ o.dst = some 8 ∧ o.guard = none
  o9 : ∃ o, ops[9]? = some o ∧ o.op = .alloc 46 ∧ o.dst = some 9 ∧ o.guard = none
  o10 : ∃ o, ops[10]? = some o ∧ o.op = .store 46 (.tmp 8) (.tmp 24) ∧ o.dst = none ∧ o.guard = none ∧ (∃ e ∈ o.after, Region.binds .any e = true ∧ e.on = 8) ∧ (∃ e ∈ o.after, Region.binds .any e = true ∧ e.on = 3)
  o11 : ∃ o, ops[11]? = some o ∧ o.op = .store 46 (.tmp 9) (.tmp 28) ∧ o.dst = none ∧ o.guard = none ∧ (∃ e ∈ o.after, Region.binds .any e = true ∧ e.on = 9) ∧ (∃ e ∈ o.after, Region.binds .any e = true ∧ e.on = 7)
  size : ops.size = 12
  low : ∀ (i : Nat) (o : Oper), ops[i]? = some o → ∀ e ∈ o.after, Region.binds .any e = true → e.on < i

def slowB (ops : Array Oper) : Bool := (List.range ops.size).all fun i => match ops[i]? with
  | some o => o.after.all fun e => !Region.binds .any e || decide (e.on < i)
  | none => true
theorem slow_of {ops : Array Oper} (h : slowB ops = true) : ∀ (i : Nat) (o : Oper), ops[i]? = some o → ∀ e ∈ o.after, Region.binds .any e = true → e.on < i := fun i o ho e he hb => by
  have := List.all_eq_true.1 h i (List.mem_range.2 (Array.getElem?_eq_some_iff.1 ho).1)
  simp only [ho] at this
  have := Array.all_eq_true_iff_forall_mem.1 this e he
  simpa [hb] using this
def sdepB (o : Oper) (k : Nat) : Bool := o.after.any fun e => Region.binds .any e && e.on == k
theorem sdep_of {o : Oper} {k : Nat} (h : sdepB o k = true) : ∃ e ∈ o.after, Region.binds .any e = true ∧ e.on = k := by
  unfold sdepB at h
  rw [← Array.any_toList] at h
  obtain ⟨e, he, hk⟩ := List.any_eq_true.1 h
  simp only [Bool.and_eq_true, beq_iff_eq] at hk
  exact ⟨e, Array.mem_toList_iff.1 he, hk.1, hk.2⟩
theorem sdep {o : Oper} {d : Nat → Bool} {k : Nat} (h : ∃ e ∈ o.after, Region.binds .any e = true ∧ e.on = k) (hd : ∀ e ∈ o.after, Region.binds .any e = true → d e.on = true) : d k = true := by
  obtain ⟨e, he, hb, rfl⟩ := h
  exact hd e he hb

theorem sm0 {U : World} {a0 : Act} {b1 o1 n c b2 o2 e j : Nat} {x y : Tk} {d : Nat → Bool} {a : Act} {W : World} (h : SmI U a0 b1 o1 n c b2 o2 e j x y d a W) (hs : 36 ≤ a0.tmps.size) {v : Value} (hv : v = .slice (some ⟨b1, o1, none⟩) n c) : SmI U a0 b1 o1 n c b2 o2 e j x y (fun j => j == 0 || d j) (a.put (some 21) v) W :=
  ⟨h.fr.put (by decide) _, h.bel, fun _ => (put_get _ _ _ (by have := h.fr.size; omega)).trans hv, fun q => (by rw [put_ne _ _ _ _ (by decide)]; exact h.e1 (by simpa using q)), fun q => (by rw [put_ne _ _ _ _ (by decide)]; exact h.e2 (by simpa using q)), fun q => (by rw [put_ne _ _ _ _ (by decide)]; exact h.e3 (by simpa using q)), fun q => (by rw [put_ne _ _ _ _ (by decide)]; exact h.e4 (by simpa using q)), fun q => (by rw [put_ne _ _ _ _ (by decide)]; exact h.e5 (by simpa using q)), fun q => (by rw [put_ne _ _ _ _ (by decide)]; exact h.e6 (by simpa using q)), fun q => (by rw [put_ne _ _ _ _ (by decide)]; exact h.e7 (by simpa using q)), fun q => (by obtain ⟨p, hp⟩ := h.e8 (by simpa using q); refine ⟨p, ?_⟩; rw [put_ne _ _ _ _ (by decide)]; exact (by simpa using hp)), fun q => (by obtain ⟨p, hp⟩ := h.e9 (by simpa using q); refine ⟨p, ?_⟩; rw [put_ne _ _ _ _ (by decide)]; exact (by simpa using hp)), fun q r => (by rw [put_ne _ _ _ _ (by decide), put_ne _ _ _ _ (by decide)]; exact h.ap (by simpa using q) (by simpa using r)), fun q => (by have g := h.c10 (by simpa using q); simp [g]), fun q => (by have g := h.c11 (by simpa using q); simp [g])⟩

theorem sm1 {U : World} {a0 : Act} {b1 o1 n c b2 o2 e j : Nat} {x y : Tk} {d : Nat → Bool} {a : Act} {W : World} (h : SmI U a0 b1 o1 n c b2 o2 e j x y d a W) (hs : 36 ≤ a0.tmps.size) {v : Value} (hv : v = .int .i64 j) : SmI U a0 b1 o1 n c b2 o2 e j x y (fun j => j == 1 || d j) (a.put (some 22) v) W :=
  ⟨h.fr.put (by decide) _, h.bel, fun q => (by rw [put_ne _ _ _ _ (by decide)]; exact h.e0 (by simpa using q)), fun _ => (put_get _ _ _ (by have := h.fr.size; omega)).trans hv, fun q => (by rw [put_ne _ _ _ _ (by decide)]; exact h.e2 (by simpa using q)), fun q => (by rw [put_ne _ _ _ _ (by decide)]; exact h.e3 (by simpa using q)), fun q => (by rw [put_ne _ _ _ _ (by decide)]; exact h.e4 (by simpa using q)), fun q => (by rw [put_ne _ _ _ _ (by decide)]; exact h.e5 (by simpa using q)), fun q => (by rw [put_ne _ _ _ _ (by decide)]; exact h.e6 (by simpa using q)), fun q => (by rw [put_ne _ _ _ _ (by decide)]; exact h.e7 (by simpa using q)), fun q => (by obtain ⟨p, hp⟩ := h.e8 (by simpa using q); refine ⟨p, ?_⟩; rw [put_ne _ _ _ _ (by decide)]; exact (by simpa using hp)), fun q => (by obtain ⟨p, hp⟩ := h.e9 (by simpa using q); refine ⟨p, ?_⟩; rw [put_ne _ _ _ _ (by decide)]; exact (by simpa using hp)), fun q r => (by rw [put_ne _ _ _ _ (by decide), put_ne _ _ _ _ (by decide)]; exact h.ap (by simpa using q) (by simpa using r)), fun q => (by have g := h.c10 (by simpa using q); simp [g]), fun q => (by have g := h.c11 (by simpa using q); simp [g])⟩

theorem sm2 {U : World} {a0 : Act} {b1 o1 n c b2 o2 e j : Nat} {x y : Tk} {d : Nat → Bool} {a : Act} {W : World} (h : SmI U a0 b1 o1 n c b2 o2 e j x y d a W) (hs : 36 ≤ a0.tmps.size) {v : Value} (hv : v = .pointer (some ⟨b1, o1 + j * 4, none⟩)) : SmI U a0 b1 o1 n c b2 o2 e j x y (fun j => j == 2 || d j) (a.put (some 23) v) W :=
  ⟨h.fr.put (by decide) _, h.bel, fun q => (by rw [put_ne _ _ _ _ (by decide)]; exact h.e0 (by simpa using q)), fun q => (by rw [put_ne _ _ _ _ (by decide)]; exact h.e1 (by simpa using q)), fun _ => (put_get _ _ _ (by have := h.fr.size; omega)).trans hv, fun q => (by rw [put_ne _ _ _ _ (by decide)]; exact h.e3 (by simpa using q)), fun q => (by rw [put_ne _ _ _ _ (by decide)]; exact h.e4 (by simpa using q)), fun q => (by rw [put_ne _ _ _ _ (by decide)]; exact h.e5 (by simpa using q)), fun q => (by rw [put_ne _ _ _ _ (by decide)]; exact h.e6 (by simpa using q)), fun q => (by rw [put_ne _ _ _ _ (by decide)]; exact h.e7 (by simpa using q)), fun q => (by obtain ⟨p, hp⟩ := h.e8 (by simpa using q); refine ⟨p, ?_⟩; rw [put_ne _ _ _ _ (by decide)]; exact (by simpa using hp)), fun q => (by obtain ⟨p, hp⟩ := h.e9 (by simpa using q); refine ⟨p, ?_⟩; rw [put_ne _ _ _ _ (by decide)]; exact (by simpa using hp)), fun q r => (by rw [put_ne _ _ _ _ (by decide), put_ne _ _ _ _ (by decide)]; exact h.ap (by simpa using q) (by simpa using r)), fun q => (by have g := h.c10 (by simpa using q); simp [g]), fun q => (by have g := h.c11 (by simpa using q); simp [g])⟩

theorem sm3 {U : World} {a0 : Act} {b1 o1 n c b2 o2 e j : Nat} {x y : Tk} {d : Nat → Bool} {a : Act} {W : World} (h : SmI U a0 b1 o1 n c b2 o2 e j x y d a W) (hs : 36 ≤ a0.tmps.size) {v : Value} (hv : v = .agg (tkA x)) : SmI U a0 b1 o1 n c b2 o2 e j x y (fun j => j == 3 || d j) (a.put (some 24) v) W :=
  ⟨h.fr.put (by decide) _, h.bel, fun q => (by rw [put_ne _ _ _ _ (by decide)]; exact h.e0 (by simpa using q)), fun q => (by rw [put_ne _ _ _ _ (by decide)]; exact h.e1 (by simpa using q)), fun q => (by rw [put_ne _ _ _ _ (by decide)]; exact h.e2 (by simpa using q)), fun _ => (put_get _ _ _ (by have := h.fr.size; omega)).trans hv, fun q => (by rw [put_ne _ _ _ _ (by decide)]; exact h.e4 (by simpa using q)), fun q => (by rw [put_ne _ _ _ _ (by decide)]; exact h.e5 (by simpa using q)), fun q => (by rw [put_ne _ _ _ _ (by decide)]; exact h.e6 (by simpa using q)), fun q => (by rw [put_ne _ _ _ _ (by decide)]; exact h.e7 (by simpa using q)), fun q => (by obtain ⟨p, hp⟩ := h.e8 (by simpa using q); refine ⟨p, ?_⟩; rw [put_ne _ _ _ _ (by decide)]; exact (by simpa using hp)), fun q => (by obtain ⟨p, hp⟩ := h.e9 (by simpa using q); refine ⟨p, ?_⟩; rw [put_ne _ _ _ _ (by decide)]; exact (by simpa using hp)), fun q r => (by rw [put_ne _ _ _ _ (by decide), put_ne _ _ _ _ (by decide)]; exact h.ap (by simpa using q) (by simpa using r)), fun q => (by have g := h.c10 (by simpa using q); simp [g]), fun q => (by have g := h.c11 (by simpa using q); simp [g])⟩

theorem sm4 {U : World} {a0 : Act} {b1 o1 n c b2 o2 e j : Nat} {x y : Tk} {d : Nat → Bool} {a : Act} {W : World} (h : SmI U a0 b1 o1 n c b2 o2 e j x y d a W) (hs : 36 ≤ a0.tmps.size) {v : Value} (hv : v = .slice (some ⟨b2, o2, none⟩) n e) : SmI U a0 b1 o1 n c b2 o2 e j x y (fun j => j == 4 || d j) (a.put (some 25) v) W :=
  ⟨h.fr.put (by decide) _, h.bel, fun q => (by rw [put_ne _ _ _ _ (by decide)]; exact h.e0 (by simpa using q)), fun q => (by rw [put_ne _ _ _ _ (by decide)]; exact h.e1 (by simpa using q)), fun q => (by rw [put_ne _ _ _ _ (by decide)]; exact h.e2 (by simpa using q)), fun q => (by rw [put_ne _ _ _ _ (by decide)]; exact h.e3 (by simpa using q)), fun _ => (put_get _ _ _ (by have := h.fr.size; omega)).trans hv, fun q => (by rw [put_ne _ _ _ _ (by decide)]; exact h.e5 (by simpa using q)), fun q => (by rw [put_ne _ _ _ _ (by decide)]; exact h.e6 (by simpa using q)), fun q => (by rw [put_ne _ _ _ _ (by decide)]; exact h.e7 (by simpa using q)), fun q => (by obtain ⟨p, hp⟩ := h.e8 (by simpa using q); refine ⟨p, ?_⟩; rw [put_ne _ _ _ _ (by decide)]; exact (by simpa using hp)), fun q => (by obtain ⟨p, hp⟩ := h.e9 (by simpa using q); refine ⟨p, ?_⟩; rw [put_ne _ _ _ _ (by decide)]; exact (by simpa using hp)), fun q r => (by rw [put_ne _ _ _ _ (by decide), put_ne _ _ _ _ (by decide)]; exact h.ap (by simpa using q) (by simpa using r)), fun q => (by have g := h.c10 (by simpa using q); simp [g]), fun q => (by have g := h.c11 (by simpa using q); simp [g])⟩

theorem sm5 {U : World} {a0 : Act} {b1 o1 n c b2 o2 e j : Nat} {x y : Tk} {d : Nat → Bool} {a : Act} {W : World} (h : SmI U a0 b1 o1 n c b2 o2 e j x y d a W) (hs : 36 ≤ a0.tmps.size) {v : Value} (hv : v = .int .i64 j) : SmI U a0 b1 o1 n c b2 o2 e j x y (fun j => j == 5 || d j) (a.put (some 26) v) W :=
  ⟨h.fr.put (by decide) _, h.bel, fun q => (by rw [put_ne _ _ _ _ (by decide)]; exact h.e0 (by simpa using q)), fun q => (by rw [put_ne _ _ _ _ (by decide)]; exact h.e1 (by simpa using q)), fun q => (by rw [put_ne _ _ _ _ (by decide)]; exact h.e2 (by simpa using q)), fun q => (by rw [put_ne _ _ _ _ (by decide)]; exact h.e3 (by simpa using q)), fun q => (by rw [put_ne _ _ _ _ (by decide)]; exact h.e4 (by simpa using q)), fun _ => (put_get _ _ _ (by have := h.fr.size; omega)).trans hv, fun q => (by rw [put_ne _ _ _ _ (by decide)]; exact h.e6 (by simpa using q)), fun q => (by rw [put_ne _ _ _ _ (by decide)]; exact h.e7 (by simpa using q)), fun q => (by obtain ⟨p, hp⟩ := h.e8 (by simpa using q); refine ⟨p, ?_⟩; rw [put_ne _ _ _ _ (by decide)]; exact (by simpa using hp)), fun q => (by obtain ⟨p, hp⟩ := h.e9 (by simpa using q); refine ⟨p, ?_⟩; rw [put_ne _ _ _ _ (by decide)]; exact (by simpa using hp)), fun q r => (by rw [put_ne _ _ _ _ (by decide), put_ne _ _ _ _ (by decide)]; exact h.ap (by simpa using q) (by simpa using r)), fun q => (by have g := h.c10 (by simpa using q); simp [g]), fun q => (by have g := h.c11 (by simpa using q); simp [g])⟩

theorem sm6 {U : World} {a0 : Act} {b1 o1 n c b2 o2 e j : Nat} {x y : Tk} {d : Nat → Bool} {a : Act} {W : World} (h : SmI U a0 b1 o1 n c b2 o2 e j x y d a W) (hs : 36 ≤ a0.tmps.size) {v : Value} (hv : v = .pointer (some ⟨b2, o2 + j * 4, none⟩)) : SmI U a0 b1 o1 n c b2 o2 e j x y (fun j => j == 6 || d j) (a.put (some 27) v) W :=
  ⟨h.fr.put (by decide) _, h.bel, fun q => (by rw [put_ne _ _ _ _ (by decide)]; exact h.e0 (by simpa using q)), fun q => (by rw [put_ne _ _ _ _ (by decide)]; exact h.e1 (by simpa using q)), fun q => (by rw [put_ne _ _ _ _ (by decide)]; exact h.e2 (by simpa using q)), fun q => (by rw [put_ne _ _ _ _ (by decide)]; exact h.e3 (by simpa using q)), fun q => (by rw [put_ne _ _ _ _ (by decide)]; exact h.e4 (by simpa using q)), fun q => (by rw [put_ne _ _ _ _ (by decide)]; exact h.e5 (by simpa using q)), fun _ => (put_get _ _ _ (by have := h.fr.size; omega)).trans hv, fun q => (by rw [put_ne _ _ _ _ (by decide)]; exact h.e7 (by simpa using q)), fun q => (by obtain ⟨p, hp⟩ := h.e8 (by simpa using q); refine ⟨p, ?_⟩; rw [put_ne _ _ _ _ (by decide)]; exact (by simpa using hp)), fun q => (by obtain ⟨p, hp⟩ := h.e9 (by simpa using q); refine ⟨p, ?_⟩; rw [put_ne _ _ _ _ (by decide)]; exact (by simpa using hp)), fun q r => (by rw [put_ne _ _ _ _ (by decide), put_ne _ _ _ _ (by decide)]; exact h.ap (by simpa using q) (by simpa using r)), fun q => (by have g := h.c10 (by simpa using q); simp [g]), fun q => (by have g := h.c11 (by simpa using q); simp [g])⟩

theorem sm7 {U : World} {a0 : Act} {b1 o1 n c b2 o2 e j : Nat} {x y : Tk} {d : Nat → Bool} {a : Act} {W : World} (h : SmI U a0 b1 o1 n c b2 o2 e j x y d a W) (hs : 36 ≤ a0.tmps.size) {v : Value} (hv : v = .agg (tkA y)) : SmI U a0 b1 o1 n c b2 o2 e j x y (fun j => j == 7 || d j) (a.put (some 28) v) W :=
  ⟨h.fr.put (by decide) _, h.bel, fun q => (by rw [put_ne _ _ _ _ (by decide)]; exact h.e0 (by simpa using q)), fun q => (by rw [put_ne _ _ _ _ (by decide)]; exact h.e1 (by simpa using q)), fun q => (by rw [put_ne _ _ _ _ (by decide)]; exact h.e2 (by simpa using q)), fun q => (by rw [put_ne _ _ _ _ (by decide)]; exact h.e3 (by simpa using q)), fun q => (by rw [put_ne _ _ _ _ (by decide)]; exact h.e4 (by simpa using q)), fun q => (by rw [put_ne _ _ _ _ (by decide)]; exact h.e5 (by simpa using q)), fun q => (by rw [put_ne _ _ _ _ (by decide)]; exact h.e6 (by simpa using q)), fun _ => (put_get _ _ _ (by have := h.fr.size; omega)).trans hv, fun q => (by obtain ⟨p, hp⟩ := h.e8 (by simpa using q); refine ⟨p, ?_⟩; rw [put_ne _ _ _ _ (by decide)]; exact (by simpa using hp)), fun q => (by obtain ⟨p, hp⟩ := h.e9 (by simpa using q); refine ⟨p, ?_⟩; rw [put_ne _ _ _ _ (by decide)]; exact (by simpa using hp)), fun q r => (by rw [put_ne _ _ _ _ (by decide), put_ne _ _ _ _ (by decide)]; exact h.ap (by simpa using q) (by simpa using r)), fun q => (by have g := h.c10 (by simpa using q); simp [g]), fun q => (by have g := h.c11 (by simpa using q); simp [g])⟩

theorem sm8 {U : World} {a0 : Act} {b1 o1 n c b2 o2 e j : Nat} {x y : Tk} {d : Nat → Bool} {a : Act} {W : World} (h : SmI U a0 b1 o1 n c b2 o2 e j x y d a W) (hs : 36 ≤ a0.tmps.size) (hd : d 8 = false) : SmI U a0 b1 o1 n c b2 o2 e j x y (fun j => j == 8 || d j) (a.put (some 8) (.pointer (some ⟨W.heap.size, 0, none⟩))) (W.alloc (.cells zTC 46)) :=
  ⟨h.fr.put (by decide) _, h.bel.alloc h.bel.size _, fun q => (by rw [put_ne _ _ _ _ (by decide)]; exact h.e0 (by simpa using q)), fun q => (by rw [put_ne _ _ _ _ (by decide)]; exact h.e1 (by simpa using q)), fun q => (by rw [put_ne _ _ _ _ (by decide)]; exact h.e2 (by simpa using q)), fun q => (by rw [put_ne _ _ _ _ (by decide)]; exact h.e3 (by simpa using q)), fun q => (by rw [put_ne _ _ _ _ (by decide)]; exact h.e4 (by simpa using q)), fun q => (by rw [put_ne _ _ _ _ (by decide)]; exact h.e5 (by simpa using q)), fun q => (by rw [put_ne _ _ _ _ (by decide)]; exact h.e6 (by simpa using q)), fun q => (by rw [put_ne _ _ _ _ (by decide)]; exact h.e7 (by simpa using q)), fun _ => ⟨W.heap.size, put_get _ _ _ (by have := h.fr.size; omega), h.bel.size, fun _ => heap_alloc_new _ _, fun q => (by have g := h.c10 (by simpa using q); rw [hd] at g; cases g)⟩, fun q => (by obtain ⟨p, hp⟩ := h.e9 (by simpa using q); refine ⟨p, ?_⟩; rw [put_ne _ _ _ _ (by decide)]; exact (by simpa using hp.keep (W' := W.alloc (.cells zTC 46)) (Below.heap_alloc _ _ _ hp.lt))), fun _ q => (by rw [put_get _ _ _ (by have := h.fr.size; omega), put_ne _ _ _ _ (by decide)]; obtain ⟨p, hp⟩ := h.e9 (by simpa using q); rw [hp.ev]; intro e; cases e; exact absurd hp.lt (Nat.lt_irrefl _)), fun q => (by have g := h.c10 (by simpa using q); simp [g]), fun q => (by have g := h.c11 (by simpa using q); simp [g])⟩

theorem sm9 {U : World} {a0 : Act} {b1 o1 n c b2 o2 e j : Nat} {x y : Tk} {d : Nat → Bool} {a : Act} {W : World} (h : SmI U a0 b1 o1 n c b2 o2 e j x y d a W) (hs : 36 ≤ a0.tmps.size) (hd : d 9 = false) : SmI U a0 b1 o1 n c b2 o2 e j x y (fun j => j == 9 || d j) (a.put (some 9) (.pointer (some ⟨W.heap.size, 0, none⟩))) (W.alloc (.cells zTC 46)) :=
  ⟨h.fr.put (by decide) _, h.bel.alloc h.bel.size _, fun q => (by rw [put_ne _ _ _ _ (by decide)]; exact h.e0 (by simpa using q)), fun q => (by rw [put_ne _ _ _ _ (by decide)]; exact h.e1 (by simpa using q)), fun q => (by rw [put_ne _ _ _ _ (by decide)]; exact h.e2 (by simpa using q)), fun q => (by rw [put_ne _ _ _ _ (by decide)]; exact h.e3 (by simpa using q)), fun q => (by rw [put_ne _ _ _ _ (by decide)]; exact h.e4 (by simpa using q)), fun q => (by rw [put_ne _ _ _ _ (by decide)]; exact h.e5 (by simpa using q)), fun q => (by rw [put_ne _ _ _ _ (by decide)]; exact h.e6 (by simpa using q)), fun q => (by rw [put_ne _ _ _ _ (by decide)]; exact h.e7 (by simpa using q)), fun q => (by obtain ⟨p, hp⟩ := h.e8 (by simpa using q); refine ⟨p, ?_⟩; rw [put_ne _ _ _ _ (by decide)]; exact (by simpa using hp.keep (W' := W.alloc (.cells zTC 46)) (Below.heap_alloc _ _ _ hp.lt))), fun _ => ⟨W.heap.size, put_get _ _ _ (by have := h.fr.size; omega), h.bel.size, fun _ => heap_alloc_new _ _, fun q => (by have g := h.c11 (by simpa using q); rw [hd] at g; cases g)⟩, fun q _ => (by rw [put_get _ _ _ (by have := h.fr.size; omega), put_ne _ _ _ _ (by decide)]; obtain ⟨p, hp⟩ := h.e8 (by simpa using q); rw [hp.ev]; intro e; cases e; exact absurd hp.lt (Nat.lt_irrefl _)), fun q => (by have g := h.c10 (by simpa using q); simp [g]), fun q => (by have g := h.c11 (by simpa using q); simp [g])⟩

theorem sm10 {U : World} {a0 : Act} {b1 o1 n c b2 o2 e j : Nat} {x y : Tk} {d : Nat → Bool} {a : Act} {W : World} (h : SmI U a0 b1 o1 n c b2 o2 e j x y d a W) {p : Nat} (hd : d 10 = false) (hd8 : d 8 = true) (hv : Vr U (a.eval (.tmp 8)) x (d 10) W p) : SmI U a0 b1 o1 n c b2 o2 e j x y (fun j => j == 10 || d j) a ((((W.setCell ⟨p, 0, none⟩ (.int .i64 x.kind)).setCell ⟨p, 1, none⟩ (.int .i64 x.n)).setCell ⟨p, 2, none⟩ (.int .i64 x.pl)).setCell ⟨p, 3, none⟩ (.string x.s)) :=
  ⟨h.fr, (((h.bel.setCell hv.new _).setCell hv.new _).setCell hv.new _).setCell hv.new _, fun q => h.e0 (by simpa using q), fun q => h.e1 (by simpa using q), fun q => h.e2 (by simpa using q), fun q => h.e3 (by simpa using q), fun q => h.e4 (by simpa using q), fun q => h.e5 (by simpa using q), fun q => h.e6 (by simpa using q), fun q => h.e7 (by simpa using q), fun _ => ⟨p, hv.ev, hv.new, fun q => (by simp at q), fun _ => store_at _ (hv.z hd)⟩, fun q => (by obtain ⟨p2, hp⟩ := h.e9 (by simpa using q); refine ⟨p2, ?_⟩; exact (by simpa using hp.keep (store_ne _ (fun e => by subst e; exact h.ap hd8 (by simpa using q) (hv.ev.trans hp.ev.symm))))), fun q r => h.ap (by simpa using q) (by simpa using r), fun _ => (by simp [hd8]), fun q => (by have g := h.c11 (by simpa using q); simp [g])⟩

theorem sm11 {U : World} {a0 : Act} {b1 o1 n c b2 o2 e j : Nat} {x y : Tk} {d : Nat → Bool} {a : Act} {W : World} (h : SmI U a0 b1 o1 n c b2 o2 e j x y d a W) {p : Nat} (hd : d 11 = false) (hd9 : d 9 = true) (hv : Vr U (a.eval (.tmp 9)) y (d 11) W p) : SmI U a0 b1 o1 n c b2 o2 e j x y (fun j => j == 11 || d j) a ((((W.setCell ⟨p, 0, none⟩ (.int .i64 y.kind)).setCell ⟨p, 1, none⟩ (.int .i64 y.n)).setCell ⟨p, 2, none⟩ (.int .i64 y.pl)).setCell ⟨p, 3, none⟩ (.string y.s)) :=
  ⟨h.fr, (((h.bel.setCell hv.new _).setCell hv.new _).setCell hv.new _).setCell hv.new _, fun q => h.e0 (by simpa using q), fun q => h.e1 (by simpa using q), fun q => h.e2 (by simpa using q), fun q => h.e3 (by simpa using q), fun q => h.e4 (by simpa using q), fun q => h.e5 (by simpa using q), fun q => h.e6 (by simpa using q), fun q => h.e7 (by simpa using q), fun q => (by obtain ⟨p2, hp⟩ := h.e8 (by simpa using q); refine ⟨p2, ?_⟩; exact (by simpa using hp.keep (store_ne _ (fun e => by subst e; exact h.ap (by simpa using q) hd9 (hp.ev.trans hv.ev.symm))))), fun _ => ⟨p, hv.ev, hv.new, fun q => (by simp at q), fun _ => store_at _ (hv.z hd)⟩, fun q r => h.ap (by simpa using q) (by simpa using r), fun q => (by have g := h.c10 (by simpa using q); simp [g]), fun _ => (by simp [hd9])⟩


/-- The law. -/
theorem sm_region {ops : Array Oper} {Q : Exit → Act → World → Prop} {id : Nat} {a0 : Act} {w : World} {b1 o1 n c b2 o2 e j : Nat} {x y : Tk} (O : SmOps ops) (hs : 36 ≤ a0.tmps.size) (h0 : a0.eval (.tmp 0) = .slice (some ⟨b1, o1, none⟩) n c) (h1 : a0.eval (.tmp 1) = .slice (some ⟨b2, o2, none⟩) n e) (h7 : a0.eval (.tmp 7) = .int .i64 j) (hj : j < n)
    (hb1 : b1 < w.heap.size) (hb2 : b2 < w.heap.size) (hx : ∀ i u, (tkC x)[i]? = some u → w.cell? ⟨b1, o1 + j * 4 + i, none⟩ = some u) (hy : ∀ i u, (tkC y)[i]? = some u → w.cell? ⟨b2, o2 + j * 4 + i, none⟩ = some u)
    (hQ : ∀ (v21 v22 v23 v24 v25 v26 v27 v28 : Value) (p q : Nat) (W : World), p ≠ q → Below w.heap.size w W → w.heap.size ≤ p → w.heap.size ≤ q → W.heap[p]? = some (.cells (tkA x) 46 (0, 0)) → W.heap[q]? = some (.cells (tkA y) 46 (0, 0)) →
      Q .normal ((((((((((a0.put (some 8) (.pointer (some ⟨p, 0, none⟩))).put (some 9) (.pointer (some ⟨q, 0, none⟩))).put (some 21) v21).put (some 22) v22).put (some 23) v23).put (some 24) v24).put (some 25) v25).put (some 26) v26).put (some 27) v27).put (some 28) v28) W) :
    (Code.region id ops true).wp Tryd.prog Q a0 w := by
  refine wp_region_invS (I := SmI w a0 b1 o1 n c b2 o2 e j x y) (by kernel_rfl) O.low ?_ ?_ ?_
  · refine ⟨FrmS.refl _ _, ⟨rfl, rfl, rfl, Nat.le_refl _, fun _ _ => rfl⟩, ?_, ?_, ?_, ?_, ?_, ?_, ?_, ?_, ?_, ?_, ?_, ?_, ?_⟩ <;> (intro q; cases q)
  · intro d a W i o hi hd hdep I
    have hc : ∀ k u, (tkC x)[k]? = some u → W.cell? ⟨b1, o1 + j * 4 + k, none⟩ = some u := fun k u hu => by rw [I.bel.cell hb1]; exact hx k u hu
    have hc2 : ∀ k u, (tkC y)[k]? = some u → W.cell? ⟨b2, o2 + j * 4 + k, none⟩ = some u := fun k u hu => by rw [I.bel.cell hb2]; exact hy k u hu
    have hi12 : i < 12 := by rw [← O.size]; exact (Array.getElem?_eq_some_iff.1 hi).1
    have hcs : i = 0 ∨ i = 1 ∨ i = 2 ∨ i = 3 ∨ i = 4 ∨ i = 5 ∨ i = 6 ∨ i = 7 ∨ i = 8 ∨ i = 9 ∨ i = 10 ∨ i = 11 := by omega
    rcases hcs with rfl | rfl | rfl | rfl | rfl | rfl | rfl | rfl | rfl | rfl | rfl | rfl
    · obtain ⟨o', h1', h2, h3, h4⟩ := O.o0
      refine wpOp_of h1' h4 (sop_move h2 ((I.fr.eval (by decide)).trans h0) ?_)
      rw [h3]; exact sm0 I hs rfl
    · obtain ⟨o', h1', h2, h3, h4⟩ := O.o1
      refine wpOp_of h1' h4 (sop_move h2 ((I.fr.eval (by decide)).trans h7) ?_)
      rw [h3]; exact sm1 I hs rfl
    · obtain ⟨o', h1', h2, h3, h4, p1, p2⟩ := O.o2
      obtain rfl : o' = o := by rw [h1'] at hi; exact Option.some.inj hi
      refine wpOp_of h1' h4 (sop_index h2 (I.e0 (sdep p1 hdep)) (I.e1 (sdep p2 hdep)) hj ?_)
      rw [h3]; exact sm2 I hs rfl
    · obtain ⟨o', h1', h2, h3, h4, p1⟩ := O.o3
      obtain rfl : o' = o := by rw [h1'] at hi; exact Option.some.inj hi
      refine wpOp_of h1' h4 (sop_load h2 (I.e2 (sdep p1 hdep)) (hc 0 _ rfl) (hc 1 _ rfl) (hc 2 _ rfl) (hc 3 _ rfl) ?_)
      rw [h3]; exact sm3 I hs rfl
    · obtain ⟨o', h1', h2, h3, h4⟩ := O.o4
      refine wpOp_of h1' h4 (sop_move h2 ((I.fr.eval (by decide)).trans h1) ?_)
      rw [h3]; exact sm4 I hs rfl
    · obtain ⟨o', h1', h2, h3, h4⟩ := O.o5
      refine wpOp_of h1' h4 (sop_move h2 ((I.fr.eval (by decide)).trans h7) ?_)
      rw [h3]; exact sm5 I hs rfl
    · obtain ⟨o', h1', h2, h3, h4, p1, p2⟩ := O.o6
      obtain rfl : o' = o := by rw [h1'] at hi; exact Option.some.inj hi
      refine wpOp_of h1' h4 (sop_index h2 (I.e4 (sdep p1 hdep)) (I.e5 (sdep p2 hdep)) hj ?_)
      rw [h3]; exact sm6 I hs rfl
    · obtain ⟨o', h1', h2, h3, h4, p1⟩ := O.o7
      obtain rfl : o' = o := by rw [h1'] at hi; exact Option.some.inj hi
      refine wpOp_of h1' h4 (sop_load h2 (I.e6 (sdep p1 hdep)) (hc2 0 _ rfl) (hc2 1 _ rfl) (hc2 2 _ rfl) (hc2 3 _ rfl) ?_)
      rw [h3]; exact sm7 I hs rfl
    · obtain ⟨o', h1', h2, h3, h4⟩ := O.o8
      refine wpOp_of h1' h4 (sop_alloc h2 ?_)
      rw [h3]; exact sm8 I hs hd
    · obtain ⟨o', h1', h2, h3, h4⟩ := O.o9
      refine wpOp_of h1' h4 (sop_alloc h2 ?_)
      rw [h3]; exact sm9 I hs hd
    · obtain ⟨o', h1', h2, h3, h4, p1, p2⟩ := O.o10
      obtain rfl : o' = o := by rw [h1'] at hi; exact Option.some.inj hi
      obtain ⟨p, hv⟩ := I.e8 (sdep p1 hdep)
      refine wpOp_of h1' h4 (sop_store h2 h3 hv.ev (I.e3 (sdep p2 hdep)) (hv.z hd) ?_)
      exact sm10 I hd (sdep p1 hdep) hv
    · obtain ⟨o', h1', h2, h3, h4, p1, p2⟩ := O.o11
      obtain rfl : o' = o := by rw [h1'] at hi; exact Option.some.inj hi
      obtain ⟨p, hv⟩ := I.e9 (sdep p1 hdep)
      refine wpOp_of h1' h4 (sop_store h2 h3 hv.ev (I.e7 (sdep p2 hdep)) (hv.z hd) ?_)
      exact sm11 I hd (sdep p1 hdep) hv
  · intro d a W hall I
    have g : ∀ i, i < 12 → d i = true := fun i hi => hall i (by rw [O.size]; exact hi)
    obtain ⟨p, hp⟩ := I.e8 (g 8 (by decide))
    obtain ⟨q, hq⟩ := I.e9 (g 9 (by decide))
    have hne : p ≠ q := fun e => I.ap (g 8 (by decide)) (g 9 (by decide)) (by rw [hp.ev, hq.ev, e])
    have ha := I.fr.all (by intro t ht; simp [smS] at ht; omega)
    rw [ha]
    simp only [putAll, smS]
    rw [hp.ev, hq.ev]
    exact hQ _ _ _ _ _ _ _ _ p q W hne I.bel hp.new hq.new (hp.f (g 10 (by decide))) (hq.f (g 11 (by decide)))
end Go.Proofs.YtfokllgfejcehaaDoor
