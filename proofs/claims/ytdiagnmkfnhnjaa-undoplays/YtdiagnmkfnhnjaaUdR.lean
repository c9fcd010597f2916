/-
  Undo: calls of a script as an argument.
-/
import Derived.Test.YtdiagnmkfnhnjaaRwR
import Derived.Test.YtdiagnmkfnhnjaaUdA
namespace Go.Proofs.Ytdiagnmkfnhnjaa
open Go.RowKit Go.Deep Rw

/-- What the cells say, however long. -/
structure MeansW (W : World) (r : RE) (c : En) : Prop where
  k : r.k = c.k
  id : r.id = c.id
  t : r.t = c.t
  ol : c.o.length = r.ol
  nl : c.n.length = r.nl
  ob : r.ol ≤ maxLen
  nb : r.nl ≤ maxLen
  o : SlV W r.oa c.o
  n : SlV W r.na c.n
  oc : r.oa = none → r.oc = 0
  nc : r.na = none → r.nc = 0
  tb : r.t.size ≤ maxLen

theorem MeansW.below {W W' : World} {r : RE} {c : En} (h : MeansW W r c) (hb : Below W.heap.size W W') : MeansW W' r c := ⟨h.k, h.id, h.t, h.ol, h.nl, h.ob, h.nb, h.o.below hb, h.n.below hb, h.oc, h.nc, h.tb⟩

theorem MeansW.small {W : World} {r : RE} {c : En} (h : MeansW W r c) (h1 : r.ol ≤ 20) (h2 : r.nl ≤ 20) : MeansE W r c := ⟨h.k, h.id, h.t, h.ol, h.nl, by omega, by omega, h.o, h.n, h.oc, h.nc⟩

/-- A call of the script. -/
structure OpD where
  k : Int
  n : Int
  s : ByteArray
  e : PE
deriving Inhabited

def opC (x : OpD) : List Value := [.int .i64 x.k, .int .i64 x.n, .string x.s, .int .i64 x.e.1.k, .int .i64 x.e.1.id, .string x.e.1.t, .slice x.e.1.oa x.e.1.ol x.e.1.oc, .slice x.e.1.na x.e.1.nl x.e.1.nc]
theorem opC_len (x : OpD) : (opC x).length = 8 := rfl
def opV (x : OpD) : Value := .agg #[.int .i64 x.k, .int .i64 x.n, .string x.s, .int .i64 x.e.1.k, .int .i64 x.e.1.id, .string x.e.1.t, .slice x.e.1.oa x.e.1.ol x.e.1.oc, .slice x.e.1.na x.e.1.nl x.e.1.nc]

structure OpOk (W : World) (x : OpD) : Prop where
  e : MeansW W x.e.1 x.e.2
  s : x.s.size ≤ maxLen
  n : (Lit.int .i64 x.n).wf = true

theorem OpOk.below {W W' : World} {x : OpD} (h : OpOk W x) (hb : Below W.heap.size W W') : OpOk W' x := ⟨h.e.below hb, h.s, h.n⟩

structure OpsIn (W : World) (a : Option Addr) (l : List OpD) : Prop where
  sl : SlG opC 8 W a l
  ok : ∀ x ∈ l, OpOk W x
  len : l.length ≤ maxLen

theorem OpsIn.below {W W' : World} {a : Option Addr} {l : List OpD} (h : OpsIn W a l) (hb : Below W.heap.size W W') : OpsIn W' a l := ⟨h.sl.below hb, fun x hx => (h.ok x hx).below hb, h.len⟩

theorem OpsIn.at {W : World} {a : Option Addr} {l : List OpD} (h : OpsIn W a l) {j : Nat} (hj : j < l.length) : ∃ b o x, a = some ⟨b, o, none⟩ ∧ b < W.heap.size ∧ l[j]? = some x ∧ OpOk W x ∧
    W.cell? ⟨b, o + j * 8, none⟩ = some (.int .i64 x.k) ∧ W.cell? ⟨b, o + j * 8 + 1, none⟩ = some (.int .i64 x.n) ∧ W.cell? ⟨b, o + j * 8 + 2, none⟩ = some (.string x.s) ∧ W.cell? ⟨b, o + j * 8 + 3, none⟩ = some (.int .i64 x.e.1.k) ∧ W.cell? ⟨b, o + j * 8 + 4, none⟩ = some (.int .i64 x.e.1.id) ∧ W.cell? ⟨b, o + j * 8 + 5, none⟩ = some (.string x.e.1.t) ∧ W.cell? ⟨b, o + j * 8 + 6, none⟩ = some (.slice x.e.1.oa x.e.1.ol x.e.1.oc) ∧ W.cell? ⟨b, o + j * 8 + 7, none⟩ = some (.slice x.e.1.na x.e.1.nl x.e.1.nc) := by
  obtain ⟨b, o, x, e, hb, hx, hc⟩ := h.sl.at hj
  exact ⟨b, o, x, e, hb, hx, h.ok x (List.mem_of_getElem? hx), hc 0 _ rfl, hc 1 _ rfl, hc 2 _ rfl, hc 3 _ rfl, hc 4 _ rfl, hc 5 _ rfl, hc 6 _ rfl, hc 7 _ rfl⟩

section
variable {H : Type} {enc : TypeId × Value → H} {w : World}

structure SVE where
  a : Option Addr
  c : Nat
  m : List Va

set_option maxRecDepth 100000 in
theorem read_val {fuel : Nat} {cs : List Value} {x : DataW H × List MemPlace} (h : DataW.trod enc Try.prog w 0 (fun _ => true) true fuel 42 cs = some x) (hl : cs.length = 3) : ∃ v : Va, cs = vaC v ∧ True := by
  obtain ⟨y0, y1, y2, n', -, -, f0, f1, f2⟩ := trod_struct3 Try.underlying42 h
  obtain ⟨k, g0, -, -⟩ := DataW.trod_int Try.underlying3 f0
  obtain ⟨q, g1, -, hq⟩ := DataW.trod_int Try.underlying3 f1
  obtain ⟨s, g2, -, -⟩ := DataW.trod_string Try.underlying9 f2
  have e0 := one_of_take g0
  have e1 := one_of_take g1
  have e2 := one_of_take g2
  match cs, hl with
  | [c0, c1, c2], _ =>
    simp at e0 e1 e2
    exact ⟨⟨k, q, s⟩, by simp [vaC, e0, e1, e2], trivial⟩

theorem cellsVal : Try.prog.cellsOf 42 = 3 := by kernel_rfl
theorem cellsEnt : Try.prog.cellsOf 35 = 5 := by kernel_rfl
theorem cellsOp : Try.prog.cellsOf 37 = 8 := by kernel_rfl

theorem read_vals {fuel : Nat} {cs : List Value} {x : DataW H × List MemPlace} (h : DataW.trod enc Try.prog w 0 (fun _ => true) true fuel 33 cs = some x) : ∃ a c, ∃ l : List Va, cs = [.slice a l.length c] ∧ SlV w a l ∧ (a = none → c = 0) ∧ l.length ≤ maxLen := by
  obtain ⟨a, cap, l, rfl, h1, h2, -, h3⟩ := read_row (α := Va) Try.underlying33 cellsVal (by decide) vaC (fun _ => True) (fun _ _ _ h hl => read_val h hl) h
  exact ⟨a, cap, l, rfl, slv_slg.2 h3, h2, h1⟩

set_option maxRecDepth 100000 in
theorem read_ent {fuel : Nat} {cs : List Value} {x : DataW H × List MemPlace} (h : DataW.trod enc Try.prog w 0 (fun _ => true) true fuel 35 cs = some x) (hl : cs.length = 5) : ∃ v : PE, cs = reC v.1 ∧ MeansW w v.1 v.2 := by
  obtain ⟨y0, y1, y2, y3, y4, n', -, f0, f1, f2, f3, f4⟩ := trod_struct5 Try.underlying35 h
  obtain ⟨k, g0, -, -⟩ := DataW.trod_int Try.underlying3 f0
  obtain ⟨q, g1, -, -⟩ := DataW.trod_int Try.underlying3 f1
  obtain ⟨s, g2, -, hsz⟩ := DataW.trod_string Try.underlying9 f2
  obtain ⟨oa, oc, o, g3, ho, hoc, hob⟩ := read_vals f3
  obtain ⟨na, nc, m, g4, hm, hnc, hnb⟩ := read_vals f4
  have e0 := one_of_take g0
  have e1 := one_of_take g1
  have e2 := one_of_take g2
  have e3 := one_of_take g3
  have e4 := one_of_take g4
  match cs, hl with
  | [c0, c1, c2, c3, c4], _ =>
    simp at e0 e1 e2 e3 e4
    refine ⟨(⟨k, q, s, oa, o.length, oc, na, m.length, nc⟩, ⟨k, q, s, o, m⟩), by simp [reC, e0, e1, e2, e3, e4], ?_⟩
    exact ⟨rfl, rfl, rfl, rfl, rfl, hob, hnb, ho, hm, hoc, hnc, by first | exact hsz | simpa using hsz⟩

set_option maxRecDepth 100000 in
theorem read_op {fuel : Nat} {cs : List Value} {x : DataW H × List MemPlace} (h : DataW.trod enc Try.prog w 0 (fun _ => true) true fuel 37 cs = some x) (hl : cs.length = 8) : ∃ v : OpD, cs = opC v ∧ OpOk w v := by
  obtain ⟨y0, y1, y2, y3, n', -, -, f0, f1, f2, f3⟩ := Go.Joins.trod_struct4 Try.underlying37 h
  obtain ⟨k, g0, -, -⟩ := DataW.trod_int Try.underlying3 f0
  obtain ⟨q, g1, -, hq⟩ := DataW.trod_int Try.underlying3 f1
  obtain ⟨s, g2, -, hsz⟩ := DataW.trod_string Try.underlying9 f2
  rw [cellsEnt] at f3
  obtain ⟨e, g3, he⟩ := read_ent f3 (by simp [hl])
  have e0 := one_of_take g0
  have e1 := one_of_take g1
  have e2 := one_of_take g2
  match cs, hl with
  | [c0, c1, c2, c3, c4, c5, c6, c7], _ =>
    simp [reC] at e0 e1 e2 g3
    obtain ⟨i0, i1, i2, i3, i4⟩ := g3
    exact ⟨⟨k, q, s, e⟩, by simp [opC, e0, e1, e2, i0, i1, i2, i3, i4], he, by first | exact hsz | simpa using hsz, hq⟩

theorem open_ops {base : Nat} {v : Value} {d : DataW H} {p : List MemPlace} (hv : Value.okWide Try.prog w .any base 22 v) (h : DataW.Trod enc Try.prog w 0 (fun _ => true) true 22 v d p) : ∃ a cap, ∃ l : List OpD, v = .slice a l.length cap ∧ OpsIn w a l := by
  obtain ⟨a, cap, l, rfl, h1, -, hok, h3⟩ := open_row Try.underlying22 cellsOp (by decide) opC (OpOk w) (fun _ _ _ h hl => read_op h hl) hv h
  exact ⟨a, cap, l, rfl, h3, hok, h1⟩

theorem open_op {base : Nat} {v : Value} {d : DataW H} {p : List MemPlace} (hv : Value.okWide Try.prog w .any base 37 v) (h : DataW.Trod enc Try.prog w 0 (fun _ => true) true 37 v d p) : ∃ x : OpD, v = opV x ∧ OpOk w x := by
  obtain ⟨cs, rfl, hsz⟩ := Go.WideShapes.okWide_struct Try.underlying37 hv
  obtain ⟨fuel, hf⟩ := h
  obtain ⟨x, hc, hok⟩ := read_op hf (by simp [Value.cells] ; first | omega | simpa [cellsOp] using hsz)
  refine ⟨x, ?_, hok⟩
  simp [Value.cells] at hc
  unfold opV
  rw [show cs = (opC x).toArray by rw [← hc]]
  rfl
end
end Go.Proofs.Ytdiagnmkfnhnjaa
