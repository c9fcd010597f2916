/-
  From what an argument of calls reads as to how the calls lie in memory.
-/
import Derived.Deep.Slices
import Derived.Deep.Strs
import Derived.Lib.SmallJoins
import Derived.Test.YtcoehlnmaehhjaaScrR
import Derived.Test.YtcoehlnmaehhjaaPlaysA
namespace Go.Proofs.Ytcoehlnmaehhjaa
open Go.RowKit Go.Deep

theorem Try.cellsOp : Try.prog.cellsOf 32 = 4 := by kernel_rfl

theorem one_of_take {cs : List Value} {j : Nat} {v : Value} (h : (cs.drop j).take 1 = [v]) : cs[j]? = some v := by
  have := congrArg (·[0]?) h
  simpa using this

set_option maxRecDepth 100000 in
theorem read_ops {H : Type} {enc : TypeId × Value → H} {w : World} {a0 : Option Addr} {len0 cap0 : Nat} {d : DataW H} {p : List MemPlace} (h : DataW.Trod enc Try.prog w 0 (fun _ => true) true 22 (.slice a0 len0 cap0) d p) : ∃ f, OpS w a0 len0 f := by
  obtain ⟨fuel, hf⟩ := h
  rcases open_slice Try.underlying22 hf with ⟨hcs, hx⟩ | ⟨a, len, cap, m, n, D, Pl, hcs, hb, hl, hm, hmm, hx, hel⟩
  · simp [Value.cells] at hcs
    obtain ⟨rfl, rfl, rfl⟩ := hcs
    exact ⟨fun _ => ⟨0, 0, 0, 0⟩, fun j hj => by omega⟩
  · simp [Value.cells] at hcs
    obtain ⟨rfl, rfl, rfl⟩ := hcs
    simp only [if_true] at hmm
    subst hmm
    by_cases hz : len0 = 0
    · exact ⟨fun _ => ⟨0, 0, 0, 0⟩, fun j hj => by omega⟩
    have hsp : a.spot = none := by
      obtain ⟨cs', hc, -⟩ := hel 0 (by omega)
      rw [Try.cellsOp] at hc
      obtain ⟨-, hlen, hcell⟩ := World.cells?_some hc
      have h0 := hcell 0 (by decide)
      rw [List.getElem?_eq_getElem (by omega)] at h0
      have := World.cell?_spot h0
      simpa [Addr.add] using this
    obtain ⟨b, o, sp⟩ := a
    simp only at hsp
    subst hsp
    have key : ∀ i, i < len0 → ∃ v : OpV, b < w.heap.size ∧ w.cell? ⟨b, o + i * 4, none⟩ = some (.int .i64 v.K) ∧ w.cell? ⟨b, o + i * 4 + 1, none⟩ = some (.int .i64 v.N) ∧ w.cell? ⟨b, o + i * 4 + 2, none⟩ = some (.int .i64 v.L) ∧ w.cell? ⟨b, o + i * 4 + 3, none⟩ = some (.int .u8 (v.B.toNat : Int)) := by
      intro i hi
      obtain ⟨cs', hc, ht⟩ := hel i (by omega)
      rw [Try.cellsOp] at hc
      obtain ⟨-, hlen, hcell⟩ := World.cells?_some hc
      obtain ⟨y0, y1, y2, y3, n', -, -, f0, f1, f2, f3⟩ := Go.Joins.trod_struct4 Try.underlying32 ht
      obtain ⟨k, g0, -, -⟩ := DataW.trod_int Try.underlying3 f0
      obtain ⟨q, g1, -, -⟩ := DataW.trod_int Try.underlying3 f1
      obtain ⟨l, g2, -, -⟩ := DataW.trod_int Try.underlying3 f2
      obtain ⟨c, g3, -, hc3⟩ := DataW.trod_int Try.underlying5 f3
      obtain ⟨x, rfl⟩ := byte_of hc3
      have hadd : ∀ j, ((⟨b, o, none⟩ : Addr).add (i * 4)).add j = ⟨b, o + i * 4 + j, none⟩ := fun j => by
        rw [add_add]
        unfold Addr.add
        split <;> simp <;> omega
      have cc : ∀ j v, cs'[j]? = some v → w.cell? ⟨b, o + i * 4 + j, none⟩ = some v := fun j v hv => by
        have hj : j < 4 := by rw [← hlen]; exact (List.getElem?_eq_some_iff.1 hv).1
        have := hcell j hj
        rw [hadd] at this
        rw [this, hv]
      refine ⟨⟨k, q, l, x⟩, ?_, cc 0 _ (one_of_take g0), cc 1 _ (one_of_take g1), cc 2 _ (one_of_take g2), cc 3 _ (one_of_take g3)⟩
      exact World.block_lt_of_cell? _ _ (cc 0 _ (one_of_take g0))
    have hinh : Inhabited OpV := ⟨⟨0, 0, 0, 0⟩⟩
    refine ⟨fun i => if h : i < len0 then Classical.choose (key i h) else default, fun j hj => ?_⟩
    obtain ⟨h1, h2, h3, h4, h5⟩ := Classical.choose_spec (key j hj)
    exact ⟨b, o, rfl, h1, by simpa [hj] using h2, by simpa [hj] using h3, by simpa [hj] using h4, by simpa [hj] using h5⟩
end Go.Proofs.Ytcoehlnmaehhjaa
