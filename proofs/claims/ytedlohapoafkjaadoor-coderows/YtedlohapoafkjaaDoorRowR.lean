/-
  From what an argument of values reads as to how the values lie in memory.
-/
import Derived.Deep.Slices
import Derived.Deep.Strs
import Derived.ProofKit
import Derived.OpenShut
import Derived.Test.YtedlohapoafkjaaDoorTied3
import Derived.Test.YtedlohapoafkjaaDoorRowV
namespace Go.Proofs.YtedlohapoafkjaaDoor
open Go.RowKit Go.Deep

theorem Tryd.cellsVal : Tryd.prog.cellsOf 23 = 3 := by kernel_rfl
theorem Tryd.cellsInt : Tryd.prog.cellsOf 3 = 1 := by kernel_rfl
theorem Tryd.cellsStr : Tryd.prog.cellsOf 9 = 1 := by kernel_rfl

theorem one_of_take {cs : List Value} {j : Nat} {v : Value} (h : (cs.drop j).take 1 = [v]) : cs[j]? = some v := by
  have := congrArg (·[0]?) h
  simpa using this

set_option maxRecDepth 100000 in
theorem read_vals {H : Type} {enc : TypeId × Value → H} {w : World} {fuel : Nat} {cs : List Value} {x : DataW H × List MemPlace} (h : DataW.trod enc Tryd.prog w 0 (fun _ => true) true fuel 32 cs = some x) :
    ∃ a n cap, ∃ l : List Val, cs = [.slice a n cap] ∧ n ≤ maxLen ∧ Sl w a n l ∧ ∀ v ∈ l, v.fit := by
  rcases open_slice Tryd.underlying32 h with ⟨rfl, hx⟩ | ⟨a, len, cap, m, n, D, Pl, rfl, hb, hl, hm, hmm, hx, hel⟩
  · exact ⟨none, 0, 0, [], rfl, by unfold maxLen; omega, ⟨rfl, Or.inl rfl⟩, by intro v hv; cases hv⟩
  · simp only [if_true] at hmm
    subst hmm
    have key : ∀ i, i < len → ∃ v : Val, fits v.n = true ∧ ∀ b o, a = ⟨b, o, none⟩ → w.cell? ⟨b, o + i * 3, none⟩ = some (.int .i64 v.k) ∧ w.cell? ⟨b, o + i * 3 + 1, none⟩ = some (.int .i64 v.n) ∧ w.cell? ⟨b, o + i * 3 + 2, none⟩ = some (.string v.s) := by
      intro i hi
      obtain ⟨cs', hc, ht⟩ := hel i (by omega)
      rw [Tryd.cellsVal] at hc
      obtain ⟨-, hlen, hcell⟩ := World.cells?_some hc
      obtain ⟨y0, y1, y2, n', -, -, f0, f1, f2⟩ := trod_struct3 Tryd.underlying23 ht
      obtain ⟨k, g0, -, -⟩ := DataW.trod_int Tryd.underlying3 f0
      obtain ⟨q, g1, -, hq⟩ := DataW.trod_int Tryd.underlying3 f1
      obtain ⟨s, g2, -, -⟩ := DataW.trod_string Tryd.underlying9 f2
      refine ⟨⟨k, q, s⟩, fits_of_wf hq, ?_⟩
      rintro b o rfl
      have hadd : ∀ j, ((⟨b, o, none⟩ : Addr).add (i * 3)).add j = ⟨b, o + i * 3 + j, none⟩ := fun j => by
        rw [add_add]
        unfold Addr.add
        split <;> simp <;> omega
      have cc : ∀ j v, cs'[j]? = some v → w.cell? ⟨b, o + i * 3 + j, none⟩ = some v := fun j v hv => by
        have hj : j < 3 := by rw [← hlen]; exact (List.getElem?_eq_some_iff.1 hv).1
        have := hcell j hj
        rw [hadd] at this
        rw [this, hv]
      exact ⟨cc 0 _ (one_of_take g0), cc 1 _ (one_of_take g1), cc 2 _ (one_of_take g2)⟩
    have hinh : Inhabited Val := ⟨⟨0, 0, ⟨#[]⟩⟩⟩
    obtain ⟨S, hS⟩ := choose_lt key
    refine ⟨some a, len, m, (List.range len).map S, rfl, by omega, ⟨by simp, ?_⟩, ?_⟩
    · cases len with
      | zero => exact Or.inl rfl
      | succ len =>
        right
        obtain ⟨cs', hc, -⟩ := hel 0 (by omega)
        rw [Tryd.cellsVal] at hc
        obtain ⟨-, hlen, hcell⟩ := World.cells?_some hc
        have h0 := hcell 0 (by decide)
        rw [List.getElem?_eq_getElem (by omega)] at h0
        have hsp : a.spot = none := by
          have := World.cell?_spot h0
          simpa [Addr.add] using this
        obtain ⟨b, o, sp⟩ := a
        simp only at hsp
        subst hsp
        refine ⟨b, o, rfl, ?_, by simp, ?_⟩
        · have := World.block_lt_of_cell? _ _ h0
          simpa [Addr.add] using this
        · intro j v hv
          rw [List.getElem?_map] at hv
          obtain ⟨i, hi, rfl⟩ := Option.map_eq_some_iff.1 hv
          have hj : j < len + 1 := by
            have := (List.getElem?_eq_some_iff.1 hi).1
            simpa using this
          have : i = j := by
            rw [List.getElem?_range hj] at hi
            exact (Option.some.inj hi).symm
          subst this
          exact (hS i hj).2 b o rfl
    · intro v hv
      obtain ⟨i, hi, rfl⟩ := List.mem_map.1 hv
      exact (hS i (by simpa using hi)).1

set_option maxRecDepth 100000 in
theorem open_vals {H : Type} {enc : TypeId × Value → H} {W : World} {base : Nat} {v : Value} {d : DataW H} {p : List MemPlace} (hv : Value.okWide Tryd.prog W .any base 32 v) (h : DataW.Trod enc Tryd.prog W 0 (fun _ => true) true 32 v d p) :
    ∃ a n cap, ∃ l : List Val, v = .slice a n cap ∧ n ≤ maxLen ∧ Sl W a n l ∧ ∀ u ∈ l, u.fit := by
  obtain ⟨a, n, cap, rfl⟩ := Go.WideShapes.okWide_slice Tryd.underlying32 hv
  obtain ⟨fuel, hf⟩ := h
  obtain ⟨a', n', cap', l, hcs, h1, h2, h3⟩ := read_vals hf
  simp [Value.cells] at hcs
  obtain ⟨rfl, rfl, rfl⟩ := hcs
  exact ⟨a, n, cap, l, rfl, h1, h2, h3⟩
end Go.Proofs.YtedlohapoafkjaaDoor
