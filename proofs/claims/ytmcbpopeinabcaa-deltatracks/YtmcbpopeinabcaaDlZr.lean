/-
  Delta: opening a list of changes.
-/
import Derived.Test.YtmcbpopeinabcaaDlZ
namespace Go.Proofs.Ytmcbpopeinabcaa
open Go.RowKit Go.Deep

section
variable {H : Type} {enc : TypeId × Value → H} {w : World}

set_option maxRecDepth 100000 in
theorem read_chg {fuel : Nat} {cs : List Value} {x : DataW H × List MemPlace} (h : DataW.trod enc Try.prog w 0 (fun _ => true) true fuel 27 cs = some x) (hl : cs.length = 4) : ∃ v : PC, cs = rcC v.1 ∧ MeansW w v.1 v.2 := by
  obtain ⟨y0, y1, y2, y3, n', -, -, f0, f1, f2, f3⟩ := Go.Joins.trod_struct4 Try.underlying27 h
  obtain ⟨s, g0, -, hsz⟩ := DataW.trod_string Try.underlying9 f0
  obtain ⟨q, g1, -, hq⟩ := DataW.trod_int Try.underlying3 f1
  obtain ⟨o, g2, ho⟩ := read_vals f2
  obtain ⟨m, g3, hm⟩ := read_vals f3
  have e0 := one_of_take g0
  have e1 := one_of_take g1
  have e2 := one_of_take g2
  have e3 := one_of_take g3
  match cs, hl with
  | [c0, c1, c2, c3], _ =>
    simp at e0 e1 e2 e3
    refine ⟨(⟨s, q, o.a, o.l, o.c, m.a, m.l, m.c⟩, ⟨s, q, o.m, m.m⟩), by simp [rcC, e0, e1, e2, e3, SV.v], ?_⟩
    exact ⟨rfl, rfl, ho.len, hm.len, ho.bd, hm.bd, ho.sl, hm.sl, ho.nil, hm.nil, by first | exact hsz | simpa using hsz, hq⟩

theorem cellsChg : Try.prog.cellsOf 27 = 4 := by kernel_rfl

theorem open_chgs {base : Nat} {v : Value} {d : DataW H} {p : List MemPlace} (hv : Value.okWide Try.prog w .any base 22 v) (h : DataW.Trod enc Try.prog w 0 (fun _ => true) true 22 v d p) : ∃ a cap, ∃ l : List PC, v = .slice a l.length cap ∧ ChgsIn w a l := by
  obtain ⟨a0, n0, cap0, rfl⟩ := Go.WideShapes.okWide_slice Try.underlying22 hv
  obtain ⟨fuel, hf⟩ := h
  obtain ⟨a, cap, l, hcs, h1, h2, hok, h3⟩ := read_row (α := PC) Try.underlying22 cellsChg (by decide) (fun v => rcC v.1) (fun v => MeansW w v.1 v.2) (fun _ _ _ h hl => read_chg h hl) hf
  simp [Value.cells] at hcs
  obtain ⟨rfl, rfl, rfl⟩ := hcs
  refine ⟨a0, cap0, l, rfl, ?_, hok, h1⟩
  rcases h3 with h3 | ⟨b, o, e, hb, hc⟩
  · exact Or.inl h3
  · refine Or.inr ⟨b, o, e, hb, fun j v hv => ?_⟩
    exact ⟨hc j v hv 0 _ rfl, hc j v hv 1 _ rfl, hc j v hv 2 _ rfl, hc j v hv 3 _ rfl⟩
end
end Go.Proofs.Ytmcbpopeinabcaa
