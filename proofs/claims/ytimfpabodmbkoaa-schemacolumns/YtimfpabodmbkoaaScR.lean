/-
  From what an argument of columns, or of values, reads as to how they lie in memory.
-/
import Derived.Deep.Slices
import Derived.Deep.Strs
import Derived.ProofKit
import Derived.OpenShut
import Derived.Lib.SmallJoins
import Derived.Test.YtimfpabodmbkoaaScC
namespace Go.Proofs.Ytimfpabodmbkoaa
open Go.RowKit Go.Deep

theorem Try.cellsVal : Try.prog.cellsOf 37 = 3 := by kernel_rfl
theorem Try.cellsCol : Try.prog.cellsOf 35 = 4 := by kernel_rfl

theorem one_of_take {cs : List Value} {j : Nat} {v : Value} (h : (cs.drop j).take 1 = [v]) : cs[j]? = some v := by
  have := congrArg (·[0]?) h
  simpa using this

theorem add_none (b o j : Nat) : (⟨b, o, none⟩ : Addr).add j = ⟨b, o + j, none⟩ := by unfold Addr.add; split <;> simp_all

set_option maxRecDepth 100000 in
theorem read_vals {H : Type} {enc : TypeId × Value → H} {w : World} {fuel : Nat} {cs : List Value} {x : DataW H × List MemPlace} (h : DataW.trod enc Try.prog w 0 (fun _ => true) true fuel 31 cs = some x) :
    ∃ a cap, ∃ l : List Va, cs = [.slice a l.length cap] ∧ l.length ≤ maxLen ∧ SlV w a l := by
  rcases open_slice Try.underlying31 h with ⟨rfl, hx⟩ | ⟨a, len, cap, m, n, D, Pl, rfl, hb, hl, hm, hmm, hx, hel⟩
  · exact ⟨none, 0, [], rfl, by simp, Or.inl rfl⟩
  · simp only [if_true] at hmm
    subst hmm
    have key : ∀ i, i < len → ∃ v : Va, ∀ b o, a = ⟨b, o, none⟩ → w.cell? ⟨b, o + i * 3, none⟩ = some (.int .i64 v.k) ∧ w.cell? ⟨b, o + i * 3 + 1, none⟩ = some (.int .i64 v.n) ∧ w.cell? ⟨b, o + i * 3 + 2, none⟩ = some (.string v.s) := by
      intro i hi
      obtain ⟨cs', hc, ht⟩ := hel i (by omega)
      rw [Try.cellsVal] at hc
      obtain ⟨-, hlen, hcell⟩ := World.cells?_some hc
      obtain ⟨y0, y1, y2, n', -, -, f0, f1, f2⟩ := trod_struct3 Try.underlying37 ht
      obtain ⟨k, g0, -, -⟩ := DataW.trod_int Try.underlying3 f0
      obtain ⟨q, g1, -, -⟩ := DataW.trod_int Try.underlying3 f1
      obtain ⟨s, g2, -, -⟩ := DataW.trod_string Try.underlying9 f2
      refine ⟨⟨k, q, s⟩, ?_⟩
      rintro b o rfl
      have cc : ∀ j v, cs'[j]? = some v → w.cell? ⟨b, o + i * 3 + j, none⟩ = some v := fun j v hv => by
        have hj : j < 3 := by rw [← hlen]; exact (List.getElem?_eq_some_iff.1 hv).1
        have := hcell j hj
        rw [add_none, add_none] at this
        rw [this, hv]
      exact ⟨cc 0 _ (one_of_take g0), cc 1 _ (one_of_take g1), cc 2 _ (one_of_take g2)⟩
    have hinh : Inhabited Va := ⟨⟨0, 0, ⟨#[]⟩⟩⟩
    obtain ⟨S, hS⟩ := choose_lt key
    refine ⟨some a, m, (List.range len).map S, by simp, by simp; omega, ?_⟩
    cases len with
    | zero => exact Or.inl rfl
    | succ len =>
      right
      obtain ⟨cs', hc, -⟩ := hel 0 (by omega)
      rw [Try.cellsVal] at hc
      obtain ⟨-, hlen, hcell⟩ := World.cells?_some hc
      have h0 := hcell 0 (by decide)
      rw [List.getElem?_eq_getElem (by omega)] at h0
      have hsp : a.spot = none := by
        have := World.cell?_spot h0
        simpa [Addr.add] using this
      obtain ⟨b, o, sp⟩ := a
      simp only at hsp
      subst hsp
      refine ⟨b, o, rfl, ?_, ?_⟩
      · have := World.block_lt_of_cell? _ _ h0
        simpa [Addr.add] using this
      · intro j v hv
        rw [List.getElem?_map] at hv
        obtain ⟨i, hi, rfl⟩ := Option.map_eq_some_iff.1 hv
        have hj : j < len + 1 := by
          have := (List.getElem?_eq_some_iff.1 hi).1
          simpa using this
        have : i = j := by
          rw [List.getElem?_range hj] at hi
          exact (Option.some.inj hi).symm
        subst this
        exact hS i hj b o rfl

set_option maxRecDepth 100000 in
theorem read_cols {H : Type} {enc : TypeId × Value → H} {w : World} {fuel : Nat} {cs : List Value} {x : DataW H × List MemPlace} (h : DataW.trod enc Try.prog w 0 (fun _ => true) true fuel 24 cs = some x) :
    ∃ a cap, ∃ l : List Col, cs = [.slice a l.length cap] ∧ l.length ≤ cap ∧ cap ≤ maxLen ∧ SlC w a l := by
  rcases open_slice Try.underlying24 h with ⟨rfl, hx⟩ | ⟨a, len, cap, m, n, D, Pl, rfl, hb, hl, hm, hmm, hx, hel⟩
  · exact ⟨none, 0, [], rfl, by simp, by simp, Or.inl rfl⟩
  · simp only [if_true] at hmm
    subst hmm
    have key : ∀ i, i < len → ∃ v : Col, ∀ b o, a = ⟨b, o, none⟩ → w.cell? ⟨b, o + i * 4, none⟩ = some (.string v.s) ∧ w.cell? ⟨b, o + i * 4 + 1, none⟩ = some (.int .i64 v.t) ∧ w.cell? ⟨b, o + i * 4 + 2, none⟩ = some (.bool v.nn) ∧ w.cell? ⟨b, o + i * 4 + 3, none⟩ = some (.bool v.uq) := by
      intro i hi
      obtain ⟨cs', hc, ht⟩ := hel i (by omega)
      rw [Try.cellsCol] at hc
      obtain ⟨-, hlen, hcell⟩ := World.cells?_some hc
      obtain ⟨y0, y1, y2, y3, n', -, -, f0, f1, f2, f3⟩ := Go.Joins.trod_struct4 Try.underlying35 ht
      obtain ⟨s, g0, -, -⟩ := DataW.trod_string Try.underlying9 f0
      obtain ⟨q, g1, -, -⟩ := DataW.trod_int Try.underlying3 f1
      obtain ⟨x2, g2, -⟩ := DataW.trod_bool Try.underlying4 f2
      obtain ⟨x3, g3, -⟩ := DataW.trod_bool Try.underlying4 f3
      refine ⟨⟨s, q, x2, x3⟩, ?_⟩
      rintro b o rfl
      have cc : ∀ j v, cs'[j]? = some v → w.cell? ⟨b, o + i * 4 + j, none⟩ = some v := fun j v hv => by
        have hj : j < 4 := by rw [← hlen]; exact (List.getElem?_eq_some_iff.1 hv).1
        have := hcell j hj
        rw [add_none, add_none] at this
        rw [this, hv]
      exact ⟨cc 0 _ (one_of_take g0), cc 1 _ (one_of_take g1), cc 2 _ (one_of_take g2), cc 3 _ (one_of_take g3)⟩
    have hinh : Inhabited Col := ⟨⟨⟨#[]⟩, 0, false, false⟩⟩
    obtain ⟨S, hS⟩ := choose_lt key
    refine ⟨some a, m, (List.range len).map S, by simp, by simp; omega, by omega, ?_⟩
    cases len with
    | zero => exact Or.inl rfl
    | succ len =>
      right
      obtain ⟨cs', hc, -⟩ := hel 0 (by omega)
      rw [Try.cellsCol] at hc
      obtain ⟨-, hlen, hcell⟩ := World.cells?_some hc
      have h0 := hcell 0 (by decide)
      rw [List.getElem?_eq_getElem (by omega)] at h0
      have hsp : a.spot = none := by
        have := World.cell?_spot h0
        simpa [Addr.add] using this
      obtain ⟨b, o, sp⟩ := a
      simp only at hsp
      subst hsp
      refine ⟨b, o, rfl, ?_, ?_⟩
      · have := World.block_lt_of_cell? _ _ h0
        simpa [Addr.add] using this
      · intro j v hv
        rw [List.getElem?_map] at hv
        obtain ⟨i, hi, rfl⟩ := Option.map_eq_some_iff.1 hv
        have hj : j < len + 1 := by
          have := (List.getElem?_eq_some_iff.1 hi).1
          simpa using this
        have : i = j := by
          rw [List.getElem?_range hj] at hi
          exact (Option.some.inj hi).symm
        subst this
        exact hS i hj b o rfl

set_option maxRecDepth 100000 in
theorem open_vals {H : Type} {enc : TypeId × Value → H} {W : World} {base : Nat} {v : Value} {d : DataW H} {p : List MemPlace} (hv : Value.okWide Try.prog W .any base 31 v) (h : DataW.Trod enc Try.prog W 0 (fun _ => true) true 31 v d p) :
    ∃ a cap, ∃ l : List Va, v = .slice a l.length cap ∧ l.length ≤ maxLen ∧ SlV W a l := by
  obtain ⟨a, n, cap, rfl⟩ := Go.WideShapes.okWide_slice Try.underlying31 hv
  obtain ⟨fuel, hf⟩ := h
  obtain ⟨a', cap', l, hcs, h1, h2⟩ := read_vals hf
  simp [Value.cells] at hcs
  obtain ⟨rfl, rfl, rfl⟩ := hcs
  exact ⟨a, cap, l, rfl, h1, h2⟩

set_option maxRecDepth 100000 in
theorem open_cols {H : Type} {enc : TypeId × Value → H} {W : World} {base : Nat} {v : Value} {d : DataW H} {p : List MemPlace} (hv : Value.okWide Try.prog W .any base 24 v) (h : DataW.Trod enc Try.prog W 0 (fun _ => true) true 24 v d p) :
    ∃ a cap, ∃ l : List Col, v = .slice a l.length cap ∧ l.length ≤ cap ∧ cap ≤ maxLen ∧ SlC W a l := by
  obtain ⟨a, n, cap, rfl⟩ := Go.WideShapes.okWide_slice Try.underlying24 hv
  obtain ⟨fuel, hf⟩ := h
  obtain ⟨a', cap', l, hcs, h1, h2, h3⟩ := read_cols hf
  simp [Value.cells] at hcs
  obtain ⟨rfl, rfl, rfl⟩ := hcs
  exact ⟨a, cap, l, rfl, h1, h2, h3⟩
end Go.Proofs.Ytimfpabodmbkoaa
