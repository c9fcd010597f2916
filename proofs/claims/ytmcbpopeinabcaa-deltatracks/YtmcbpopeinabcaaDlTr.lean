/-
  Delta: a script of steps as an argument; the document's list, also where it was cut to its length.
-/
import Derived.Deep.RegionLawGrows
import Derived.Test.YtmcbpopeinabcaaDlZr
import Derived.Test.YtmcbpopeinabcaaDlTm
namespace Go.Proofs.Ytmcbpopeinabcaa
open Go.RowKit Go.Deep

/-- A step of the script. -/
structure StepD where
  k : Int
  n : Int
  c : PC
deriving Inhabited

def stpC (x : StepD) : List Value := [.int .i64 x.k, .int .i64 x.n] ++ rcC x.c.1

/-- The steps of a slice whose first lies at a. -/
def SlS (W : World) (a : Option Addr) (l : List StepD) : Prop := l = [] ∨ ∃ b o, a = some ⟨b, o, none⟩ ∧ b < W.heap.size ∧ ∀ j x, l[j]? = some x →
  W.cell? ⟨b, o + j * 6, none⟩ = some (.int .i64 x.k) ∧ W.cell? ⟨b, o + j * 6 + 1, none⟩ = some (.int .i64 x.n) ∧ W.cell? ⟨b, o + j * 6 + 2, none⟩ = some (.string x.c.1.t) ∧ W.cell? ⟨b, o + j * 6 + 3, none⟩ = some (.int .i64 x.c.1.id) ∧ W.cell? ⟨b, o + j * 6 + 4, none⟩ = some (.slice x.c.1.oa x.c.1.ol x.c.1.oc) ∧ W.cell? ⟨b, o + j * 6 + 5, none⟩ = some (.slice x.c.1.na x.c.1.nl x.c.1.nc)

structure StepsIn (W : World) (a : Option Addr) (l : List StepD) : Prop where
  sl : SlS W a l
  ok : ∀ x ∈ l, MeansW W x.c.1 x.c.2
  len : l.length ≤ maxLen

theorem StepsIn.below {W W' : World} {a : Option Addr} {l : List StepD} (h : StepsIn W a l) (hb : Below W.heap.size W W') : StepsIn W' a l := by
  refine ⟨?_, fun x hx => (h.ok x hx).below hb, h.len⟩
  rcases h.sl with h | ⟨b, o, e, hlt, hc⟩
  · exact Or.inl h
  · refine Or.inr ⟨b, o, e, Nat.lt_of_lt_of_le hlt hb.size, fun j c hj => ?_⟩
    have e := fun i => hb.cell (p := ⟨b, i, none⟩) hlt
    simp only [e]
    exact hc j c hj

theorem StepsIn.at {W : World} {a : Option Addr} {l : List StepD} (h : StepsIn W a l) {j : Nat} (hj : j < l.length) : ∃ b o x, a = some ⟨b, o, none⟩ ∧ b < W.heap.size ∧ l[j]? = some x ∧ MeansW W x.c.1 x.c.2 ∧
    W.cell? ⟨b, o + j * 6, none⟩ = some (.int .i64 x.k) ∧ W.cell? ⟨b, o + j * 6 + 1, none⟩ = some (.int .i64 x.n) ∧ W.cell? ⟨b, o + j * 6 + 2, none⟩ = some (.string x.c.1.t) ∧ W.cell? ⟨b, o + j * 6 + 3, none⟩ = some (.int .i64 x.c.1.id) ∧ W.cell? ⟨b, o + j * 6 + 4, none⟩ = some (.slice x.c.1.oa x.c.1.ol x.c.1.oc) ∧ W.cell? ⟨b, o + j * 6 + 5, none⟩ = some (.slice x.c.1.na x.c.1.nl x.c.1.nc) := by
  rcases h.sl with rfl | ⟨b, o, e, hlt, hc⟩
  · simp at hj
  · exact ⟨b, o, l[j], e, hlt, List.getElem?_eq_getElem hj, h.ok _ (List.getElem_mem hj), hc j _ (List.getElem?_eq_getElem hj)⟩

section
variable {H : Type} {enc : TypeId × Value → H} {w : World}

set_option maxRecDepth 100000 in
theorem read_step {fuel : Nat} {cs : List Value} {x : DataW H × List MemPlace} (h : DataW.trod enc Try.prog w 0 (fun _ => true) true fuel 52 cs = some x) (hl : cs.length = 6) : ∃ v : StepD, cs = stpC v ∧ MeansW w v.c.1 v.c.2 := by
  obtain ⟨y0, y1, y2, n', -, -, f0, f1, f2⟩ := trod_struct3 Try.underlying52 h
  obtain ⟨k, g0, -, -⟩ := DataW.trod_int Try.underlying3 f0
  obtain ⟨q, g1, -, -⟩ := DataW.trod_int Try.underlying3 f1
  rw [cellsChg] at f2
  obtain ⟨c, g2, hc⟩ := read_chg f2 (by simp [hl])
  have e0 := one_of_take g0
  have e1 := one_of_take g1
  match cs, hl with
  | [c0, c1, c2, c3, c4, c5], _ =>
    simp at e0 e1 g2
    refine ⟨⟨k, q, c⟩, ?_, hc⟩
    simp [stpC, e0, e1, ← g2]

theorem cellsStep : Try.prog.cellsOf 52 = 6 := by kernel_rfl

theorem open_steps {base : Nat} {v : Value} {d : DataW H} {p : List MemPlace} (hv : Value.okWide Try.prog w .any base 48 v) (h : DataW.Trod enc Try.prog w 0 (fun _ => true) true 48 v d p) : ∃ a cap, ∃ l : List StepD, v = .slice a l.length cap ∧ StepsIn w a l := by
  obtain ⟨a0, n0, cap0, rfl⟩ := Go.WideShapes.okWide_slice Try.underlying48 hv
  obtain ⟨fuel, hf⟩ := h
  obtain ⟨a, cap, l, hcs, h1, h2, hok, h3⟩ := read_row (α := StepD) Try.underlying48 cellsStep (by decide) stpC (fun v => MeansW w v.c.1 v.c.2) (fun _ _ _ h hl => read_step h hl) hf
  simp [Value.cells] at hcs
  obtain ⟨rfl, rfl, rfl⟩ := hcs
  refine ⟨a0, cap0, l, rfl, ?_, hok, h1⟩
  rcases h3 with h3 | ⟨b, o, e, hb, hc⟩
  · exact Or.inl h3
  · refine Or.inr ⟨b, o, e, hb, fun j v hv => ?_⟩
    exact ⟨hc j v hv 0 _ rfl, hc j v hv 1 _ rfl, hc j v hv 2 _ rfl, hc j v hv 3 _ rfl, hc j v hv 4 _ rfl, hc j v hv 5 _ rfl⟩
end

/-- The document's list: a row of the call's own, or the head of one that was cut to its length. -/
structure DocL (B : Nat) (a : Option Addr) (n c : Nat) (N : List PC) (W : World) : Prop where
  len : N.length = n
  nil : a = none → c = 0
  cap : n ≤ c
  src : Src W a n c (rcs N)
  own : W.ownsRow B 30 4 (.slice a n c) n (rcs N) ∨ c = n
  blk : ∀ ad, a = some ad → ∃ g cur, ad = ⟨g, 0, none⟩ ∧ B ≤ g ∧ W.heap[g]? = some (.cells cur 30 (0, 0))

theorem docL_nil (B : Nat) (W : World) : DocL B none 0 0 [] W := ⟨rfl, fun _ => rfl, Nat.le_refl _, Or.inl ⟨rfl, rfl, rfl, rfl⟩, Or.inl (World.ownsRow_nil _ _ _ _), fun _ h => (by cases h)⟩

theorem src_keep {W W' : World} {a : Option Addr} {n c : Nat} {xs : List Value} (h : Src W a n c xs) (hb : ∀ g o, a = some ⟨g, o, none⟩ → W'.heap[g]? = W.heap[g]?) (hp : ∀ ad, a = some ad → ad.spot = none) : Src W' a n c xs := by
  rcases h with h | ⟨ad, rfl, hc⟩
  · exact Or.inl h
  · refine Or.inr ⟨ad, rfl, fun j u hu => ?_⟩
    obtain ⟨g, o, sp⟩ := ad
    have := hp _ rfl
    simp only at this
    subst this
    rw [add_none, World.cell?_of_block (w := W) (w' := W') (a := ⟨g, o + j, none⟩) (hb g o rfl), ← add_none]
    exact hc j u hu

/-- What turns no block of the document's changes keeps the list. -/
theorem DocL.keep {B : Nat} {a : Option Addr} {n c : Nat} {N : List PC} {W W' : World} (h : DocL B a n c N W) (hb : ∀ (g : Nat) (cur : Array Value), W.heap[g]? = some (Obj.cells cur 30 (0, 0)) → W'.heap[g]? = W.heap[g]?) : DocL B a n c N W' := by
  have hk : ∀ g o, a = some ⟨g, o, none⟩ → W'.heap[g]? = W.heap[g]? := fun g o e => by
    obtain ⟨g', cur, e', _, hg⟩ := h.blk _ e
    cases e'
    exact hb _ _ hg
  refine ⟨h.len, h.nil, h.cap, src_keep h.src hk fun ad e => ?_, ?_, fun ad e => ?_⟩
  · obtain ⟨g, cur, rfl, _⟩ := h.blk _ e; rfl
  · rcases h.own with ho | ho
    · refine Or.inl (owns_below ho fun q hq => ?_)
      cases a with
      | none => cases hq
      | some ad =>
        obtain ⟨g, cur, rfl, _⟩ := h.blk _ rfl
        cases hq
        exact hk _ _ rfl
    · exact Or.inr ho
  · obtain ⟨g, cur, rfl, h1, h2⟩ := h.blk _ e
    exact ⟨g, cur, rfl, h1, by rw [hk g 0 e]; exact h2⟩

theorem DocL.on {B : Nat} {a : Option Addr} {n c : Nat} {N : List PC} {W W' : World} (h : DocL B a n c N W) (hb : Below W.heap.size W W') : DocL B a n c N W' :=
  h.keep fun g _ hg => hb.block g (Array.getElem?_eq_some_iff.1 hg).1

/-- A row of the call's own is such a list. -/
theorem docL_own {B : Nat} {a : Option Addr} {n c : Nat} {N : List PC} {W : World} (h : W.ownsRow B 30 4 (.slice a n c) n (rcs N)) : DocL B a n c N W := by
  obtain ⟨h1, _, h3⟩ := owns_slc h
  refine ⟨h1, h3, own_cap h, owns_src h, Or.inl h, fun ad e => ?_⟩
  rcases h.2 with ⟨e1, _⟩ | ⟨g, cap, cur, e1, hg, hb, _⟩
  · cases e1; cases e
  · cases e1; cases e
    exact ⟨g, cur, rfl, hg, hb⟩

/-- Cut to its first k, and to that length. -/
theorem DocL.cut {B : Nat} {a : Option Addr} {n c : Nat} {N : List PC} {W : World} (h : DocL B a n c N W) {k : Nat} (hk : k ≤ n) : DocL B a k k (N.take k) W := by
  refine ⟨by rw [List.length_take, h.len]; omega, fun e => ?_, Nat.le_refl _, ?_, Or.inr rfl, h.blk⟩
  · have := h.nil e; have := h.cap; omega
  · rw [(rcs_splitT N k).1]
    rcases h.src with ⟨rfl, h1, h2, h3⟩ | ⟨ad, rfl, hc⟩
    · exact Or.inl ⟨rfl, by omega, by omega, by rw [h3]; simp⟩
    · refine Or.inr ⟨ad, rfl, fun j u hu => hc j u ?_⟩
      rw [List.getElem?_take] at hu
      split at hu
      · exact hu
      · cases hu

theorem DocL.slc {B : Nat} {a : Option Addr} {n c : Nat} {N : List PC} {W : World} (h : DocL B a n c N W) : SlC W a N := by
  cases a with
  | none =>
    have h1 := h.nil rfl
    have h2 := h.cap
    have h3 := h.len
    exact Or.inl (List.length_eq_zero_iff.1 (by omega))
  | some ad =>
    obtain ⟨g, cur, rfl, hB, hg⟩ := h.blk _ rfl
    rcases h.src with ⟨e, _⟩ | ⟨ad, e, hc⟩
    · cases e
    · cases e
      refine Or.inr ⟨g, 0, rfl, (Array.getElem?_eq_some_iff.1 hg).1, fun j x hx => ?_⟩
      obtain ⟨c0, c1, c2, c3⟩ := rcs_at N j x hx
      have hh : ∀ t u, (rcs N)[t]? = some u → W.cell? ⟨g, 0 + t, none⟩ = some u := fun t u hu => by have := hc t u hu; rwa [add_none] at this
      exact ⟨hh _ _ c0, by rw [Nat.add_assoc]; exact hh _ _ c1, by rw [Nat.add_assoc]; exact hh _ _ c2, by rw [Nat.add_assoc]; exact hh _ _ c3⟩
end Go.Proofs.Ytmcbpopeinabcaa
