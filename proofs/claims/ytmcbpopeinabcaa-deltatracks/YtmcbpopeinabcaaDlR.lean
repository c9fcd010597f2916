/-
  Delta: from what an argument reads as to how it lies in memory.
-/
import Derived.Deep.Slices
import Derived.Deep.Strs
import Derived.ProofKit
import Derived.OpenShut
import Derived.Lib.SmallJoins
import Derived.Test.YtmcbpopeinabcaaDlJ
namespace Go.Proofs.Ytmcbpopeinabcaa
open Go.RowKit Go.Deep

theorem one_of_take {cs : List Value} {j : Nat} {v : Value} (h : (cs.drop j).take 1 = [v]) : cs[j]? = some v := by
  have := congrArg (·[0]?) h
  simpa using this

section
variable {H : Type} {enc : TypeId × Value → H} {w : World}

/-- A slice's elements, by a reading of each. -/
theorem read_row {α : Type} [Inhabited α] {t e : TypeId} {size : Nat} (ht : Try.prog.underlying t = some (.slice e)) (hsz : Try.prog.cellsOf e = size) (hpos : 0 < size) (R : α → List Value) (Ok : α → Prop)
    (helem : ∀ fuel cs x, DataW.trod enc Try.prog w 0 (fun _ => true) true fuel e cs = some x → cs.length = size → ∃ v, cs = R v ∧ Ok v)
    {fuel : Nat} {cs : List Value} {x : DataW H × List MemPlace} (h : DataW.trod enc Try.prog w 0 (fun _ => true) true fuel t cs = some x) :
    ∃ a cap, ∃ l : List α, cs = [.slice a l.length cap] ∧ l.length ≤ maxLen ∧ (a = none → cap = 0) ∧ (∀ x ∈ l, Ok x) ∧
      (l = [] ∨ ∃ b o, a = some ⟨b, o, none⟩ ∧ b < w.heap.size ∧ ∀ j x, l[j]? = some x → ∀ i v, (R x)[i]? = some v → w.cell? ⟨b, o + j * size + i, none⟩ = some v) := by
  rcases open_slice ht h with ⟨rfl, hx⟩ | ⟨a, len, cap, m, n, D, Pl, rfl, hb, hl, hm, hmm, hx, hel⟩
  · exact ⟨none, 0, [], rfl, by simp, fun _ => rfl, fun _ h => (by cases h), Or.inl rfl⟩
  · simp only [if_true] at hmm
    subst hmm
    have key : ∀ i, i < len → ∃ v : α, Ok v ∧ ∀ b o, a = ⟨b, o, none⟩ → ∀ j u, (R v)[j]? = some u → w.cell? ⟨b, o + i * size + j, none⟩ = some u := by
      intro i hi
      obtain ⟨cs', hc, ht'⟩ := hel i (by omega)
      rw [hsz] at hc
      obtain ⟨-, hlen, hcell⟩ := World.cells?_some hc
      obtain ⟨v, rfl, hok⟩ := helem _ _ _ ht' hlen
      refine ⟨v, hok, ?_⟩
      rintro b o rfl j u hu
      have hj : j < size := by rw [← hlen]; exact (List.getElem?_eq_some_iff.1 hu).1
      have := hcell j hj
      rw [add_none, add_none] at this
      rw [this, hu]
    obtain ⟨S, hS⟩ := choose_lt key
    refine ⟨some a, m, (List.range len).map S, by simp, by simp; omega, fun h => (by cases h), ?_, ?_⟩
    · intro x hx
      obtain ⟨i, hi, rfl⟩ := List.mem_map.1 hx
      exact (hS i (List.mem_range.1 hi)).1
    cases len with
    | zero => exact Or.inl rfl
    | succ len =>
      right
      obtain ⟨cs', hc, -⟩ := hel 0 (by omega)
      rw [hsz] at hc
      obtain ⟨-, hlen, hcell⟩ := World.cells?_some hc
      have h0 := hcell 0 hpos
      rw [List.getElem?_eq_getElem (by omega)] at h0
      have hsp : a.spot = none := by
        have := World.cell?_spot h0
        simpa [Addr.add] using this
      obtain ⟨b, o, sp⟩ := a
      simp only at hsp
      subst hsp
      refine ⟨b, o, rfl, ?_, ?_⟩
      · have := World.block_lt_of_cell? _ _ h0
        simpa [Addr.add] using this
      · intro j v hv
        rw [List.getElem?_map] at hv
        obtain ⟨i, hi, rfl⟩ := Option.map_eq_some_iff.1 hv
        have hj : j < len + 1 := by
          have := (List.getElem?_eq_some_iff.1 hi).1
          simpa using this
        have : i = j := by
          rw [List.getElem?_range hj] at hi
          exact (Option.some.inj hi).symm
        subst this
        exact (hS i hj).2 b o rfl

set_option maxRecDepth 100000 in
theorem read_val {fuel : Nat} {cs : List Value} {x : DataW H × List MemPlace} (h : DataW.trod enc Try.prog w 0 (fun _ => true) true fuel 55 cs = some x) (hl : cs.length = 3) : ∃ v : Va, cs = vaC v ∧ True := by
  obtain ⟨y0, y1, y2, n', -, -, f0, f1, f2⟩ := trod_struct3 Try.underlying55 h
  obtain ⟨k, g0, -, -⟩ := DataW.trod_int Try.underlying3 f0
  obtain ⟨q, g1, -, hq⟩ := DataW.trod_int Try.underlying3 f1
  obtain ⟨s, g2, -, -⟩ := DataW.trod_string Try.underlying9 f2
  have e0 := one_of_take g0
  have e1 := one_of_take g1
  have e2 := one_of_take g2
  match cs, hl with
  | [c0, c1, c2], _ =>
    simp at e0 e1 e2
    exact ⟨⟨k, q, s⟩, by simp [vaC, e0, e1, e2], trivial⟩

theorem cellsVal : Try.prog.cellsOf 55 = 3 := by kernel_rfl

theorem read_vals {fuel : Nat} {cs : List Value} {x : DataW H × List MemPlace} (h : DataW.trod enc Try.prog w 0 (fun _ => true) true fuel 25 cs = some x) : ∃ s : SV, cs = [s.v] ∧ s.ok w := by
  obtain ⟨a, cap, l, rfl, h1, h2, -, h3⟩ := read_row (α := Va) Try.underlying25 cellsVal (by decide) vaC (fun _ => True) (fun _ _ _ h hl => read_val h hl) h
  refine ⟨⟨a, l.length, cap, l⟩, rfl, ?_, rfl, h2, h1⟩
  rcases h3 with h3 | ⟨b, o, e, hb, hc⟩
  · exact Or.inl h3
  · refine Or.inr ⟨b, o, e, hb, fun j v hv => ?_⟩
    exact ⟨hc j v hv 0 _ rfl, hc j v hv 1 _ rfl, hc j v hv 2 _ rfl⟩

def opC (o : OpD) : List Value := [.int .u8 (o.t : Int), .int .u8 (o.i : Int), o.s.v]

theorem nat8 {n : Int} (h : (Lit.int .u8 n).wf = true) : ∃ m : Nat, n = (m : Int) ∧ m < 256 := by
  simp [Lit.wf, IntKind.min, IntKind.max, IntKind.signed, IntKind.bits] at h
  exact ⟨n.toNat, by omega, by omega⟩

set_option maxRecDepth 100000 in
theorem read_op {fuel : Nat} {cs : List Value} {x : DataW H × List MemPlace} (h : DataW.trod enc Try.prog w 0 (fun _ => true) true fuel 66 cs = some x) (hl : cs.length = 3) : ∃ v : OpD, cs = opC v ∧ (v.s.ok w ∧ v.t < 256 ∧ v.i < 256) := by
  obtain ⟨y0, y1, y2, n', -, -, f0, f1, f2⟩ := trod_struct3 Try.underlying66 h
  obtain ⟨k, g0, -, hk⟩ := DataW.trod_int Try.underlying5 f0
  obtain ⟨q, g1, -, hq⟩ := DataW.trod_int Try.underlying5 f1
  obtain ⟨s, g2, hs⟩ := read_vals f2
  obtain ⟨k', rfl, hk'⟩ := nat8 hk
  obtain ⟨q', rfl, hq'⟩ := nat8 hq
  have e0 := one_of_take g0
  have e1 := one_of_take g1
  have e2 := one_of_take g2
  match cs, hl with
  | [c0, c1, c2], _ =>
    simp at e0 e1 e2
    exact ⟨⟨k', q', s⟩, by simp [opC, e0, e1, e2], hs, hk', hq'⟩

theorem cellsOp : Try.prog.cellsOf 66 = 3 := by kernel_rfl

theorem open_ops {base : Nat} {v : Value} {d : DataW H} {p : List MemPlace} (hv : Value.okWide Try.prog w .any base 39 v) (h : DataW.Trod enc Try.prog w 0 (fun _ => true) true 39 v d p) : ∃ a cap, ∃ l : List OpD, v = .slice a l.length cap ∧ OpsIn w a l := by
  obtain ⟨a0, n0, cap0, rfl⟩ := Go.WideShapes.okWide_slice Try.underlying39 hv
  obtain ⟨fuel, hf⟩ := h
  obtain ⟨a, cap, l, hcs, h1, h2, hok, h3⟩ := read_row (α := OpD) Try.underlying39 cellsOp (by decide) opC (fun v => v.s.ok w ∧ v.t < 256 ∧ v.i < 256) (fun _ _ _ h hl => read_op h hl) hf
  simp [Value.cells] at hcs
  obtain ⟨rfl, rfl, rfl⟩ := hcs
  refine ⟨a0, cap0, l, rfl, ?_, hok, h1⟩
  rcases h3 with h3 | ⟨b, o, e, hb, hc⟩
  · exact Or.inl h3
  · refine Or.inr ⟨b, o, e, hb, fun j v hv => ?_⟩
    exact ⟨hc j v hv 0 _ rfl, hc j v hv 1 _ rfl, hc j v hv 2 _ rfl⟩
end
end Go.Proofs.Ytmcbpopeinabcaa
