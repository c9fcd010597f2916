/-
  Undo: entries in memory; copied of package undo.
-/
import Derived.Test.YtdiagnmkfnhnjaaDlA
import Derived.Test.YtdiagnmkfnhnjaaRwA
namespace Go.Proofs.Ytdiagnmkfnhnjaa
open Go.RowKit Rw

theorem vaC_len (v : Va) : (vaC v).length = 3 := rfl
theorem vaC_one (v : Va) : ∀ u ∈ vaC v, u.oneCell' = true := by
  intro u hu
  simp [vaC] at hu
  rcases hu with rfl | rfl | rfl <;> rfl

theorem slv_slg {W : World} {a : Option Addr} {l : List Va} : SlV W a l ↔ SlG vaC 3 W a l := by
  constructor
  · rintro (h | ⟨b, o, e, hb, hc⟩)
    · exact Or.inl h
    · refine Or.inr ⟨b, o, e, hb, fun j x hj i u hu => ?_⟩
      obtain ⟨c0, c1, c2⟩ := hc j x hj
      match i, hu with
      | 0, hu => cases hu; exact c0
      | 1, hu => cases hu; exact c1
      | 2, hu => cases hu; exact c2
      | i + 3, hu => simp [vaC] at hu
  · rintro (h | ⟨b, o, e, hb, hc⟩)
    · exact Or.inl h
    · exact Or.inr ⟨b, o, e, hb, fun j x hj => ⟨hc j x hj 0 _ rfl, hc j x hj 1 _ rfl, hc j x hj 2 _ rfl⟩⟩

theorem SlV.srcG {W : World} {a : Option Addr} {l : List Va} (h : SlV W a l) {m c : Nat} (hm : l.length = m) (hc : a = none → c = 0) : Src W a m c (flat vaC l) := (slv_slg.1 h).src vaC_len (by decide) hm hc

theorem owns_slv {W : World} {base : Nat} {a : Option Addr} {n c : Nat} {l : List Va} (h : W.ownsRow base 42 3 (.slice a n c) n (flat vaC l)) : l.length = n ∧ SlV W a l ∧ (a = none → c = 0) := by
  obtain ⟨h1, h2, h3⟩ := owns_slg vaC_len (by decide) h
  exact ⟨h1, slv_slg.2 h2, h3⟩

/-- An entry as its cells have it. -/
structure RE where
  k : Int
  id : Int
  t : ByteArray
  oa : Option Addr
  ol : Nat
  oc : Nat
  na : Option Addr
  nl : Nat
  nc : Nat
deriving Inhabited

def reC (r : RE) : List Value := [.int .i64 r.k, .int .i64 r.id, .string r.t, .slice r.oa r.ol r.oc, .slice r.na r.nl r.nc]
def reV (r : RE) : Value := .agg #[.int .i64 r.k, .int .i64 r.id, .string r.t, .slice r.oa r.ol r.oc, .slice r.na r.nl r.nc]

theorem reC_len (r : RE) : (reC r).length = 5 := rfl
theorem reC_one (r : RE) : ∀ u ∈ reC r, u.oneCell' = true := by
  intro u hu
  simp [reC] at hu
  rcases hu with rfl | rfl | rfl | rfl | rfl <;> rfl

/-- An entry. -/
structure En where
  k : Int
  id : Int
  t : ByteArray
  o : List Va
  n : List Va
deriving Inhabited

/-- What the cells say. -/
structure MeansE (W : World) (r : RE) (c : En) : Prop where
  k : r.k = c.k
  id : r.id = c.id
  t : r.t = c.t
  ol : c.o.length = r.ol
  nl : c.n.length = r.nl
  ob : r.ol ≤ 1000
  nb : r.nl ≤ 1000
  o : SlV W r.oa c.o
  n : SlV W r.na c.n
  oc : r.oa = none → r.oc = 0
  nc : r.na = none → r.nc = 0

theorem MeansE.below {W W' : World} {r : RE} {c : En} (h : MeansE W r c) (hb : Below W.heap.size W W') : MeansE W' r c := ⟨h.k, h.id, h.t, h.ol, h.nl, h.ob, h.nb, h.o.below hb, h.n.below hb, h.oc, h.nc⟩

abbrev PE := RE × En
def peC (x : PE) : List Value := reC x.1
theorem peC_len (x : PE) : (peC x).length = 5 := rfl
theorem peC_one (x : PE) : ∀ u ∈ peC x, u.oneCell' = true := reC_one x.1

theorem infoVal : (Try.prog.info? 42).map (fun i => (i.zero, i.size, i.bytes)) = some (some (.agg #[.int .i64 0, .int .i64 0, .string ⟨#[]⟩]), 3, 32) := by kernel_rfl
theorem infoEnt : (Try.prog.info? 35).map (fun i => (i.zero, i.size, i.bytes)) = some (some (.agg #[.int .i64 0, .int .i64 0, .string ⟨#[]⟩, .slice none 0 0, .slice none 0 0]), 5, 80) := by kernel_rfl

/-- What copying makes: the same entry, its lists in rows of its own. -/
structure CopiedE (w w' : World) (r r' : RE) (c : En) : Prop where
  k : r'.k = r.k
  id : r'.id = r.id
  t : r'.t = r.t
  below : Below w.heap.size w w'
  o : w'.ownsRow w.heap.size 42 3 (.slice r'.oa r'.ol r'.oc) r'.ol (flat vaC c.o)
  n : w'.ownsRow w.heap.size 42 3 (.slice r'.na r'.nl r'.nc) r'.nl (flat vaC c.n)

/-- What is copied means the same. -/
theorem CopiedE.means {w w' : World} {r r' : RE} {c : En} (h : CopiedE w w' r r' c) (hm : MeansE w r c) : MeansE w' r' c := by
  obtain ⟨o1, o2, o3⟩ := owns_slv h.o
  obtain ⟨n1, n2, n3⟩ := owns_slv h.n
  exact ⟨h.k.trans hm.k, h.id.trans hm.id, h.t.trans hm.t, o1, n1, by have := hm.ol; have := hm.ob; omega, by have := hm.nl; have := hm.nb; omega, o2, n2, o3, n3⟩

/-- A block of five cells. -/
def Box5 (W : World) (b : Nat) (x0 x1 x2 x3 x4 : Value) : Prop := W.heap[b]? = some (.cells #[x0, x1, x2, x3, x4] 35 (0, 0))

theorem Box5.facts {W : World} {b : Nat} {x0 x1 x2 x3 x4 : Value} (h : Box5 W b x0 x1 x2 x3 x4) : W.cell? ⟨b, 0, none⟩ = some x0 ∧ W.cell? ⟨b, 1, none⟩ = some x1 ∧ W.cell? ⟨b, 2, none⟩ = some x2 ∧ W.cell? ⟨b, 3, none⟩ = some x3 ∧ W.cell? ⟨b, 4, none⟩ = some x4 ∧ b < W.heap.size :=
  ⟨cell_of_row _ _ _ _ _ _ h, cell_of_row _ _ _ _ _ _ h, cell_of_row _ _ _ _ _ _ h, cell_of_row _ _ _ _ _ _ h, cell_of_row _ _ _ _ _ _ h, (Array.getElem?_eq_some_iff.1 h).1⟩

theorem Box5.froz {W : World} {b : Nat} {x0 x1 x2 x3 x4 : Value} (h : Box5 W b x0 x1 x2 x3 x4) : W.frozen? ⟨b, 0, none⟩ = false ∧ W.frozen? ⟨b, 1, none⟩ = false ∧ W.frozen? ⟨b, 2, none⟩ = false ∧ W.frozen? ⟨b, 3, none⟩ = false ∧ W.frozen? ⟨b, 4, none⟩ = false :=
  ⟨frozen_of_row _ _ _ _ _ h, frozen_of_row _ _ _ _ _ h, frozen_of_row _ _ _ _ _ h, frozen_of_row _ _ _ _ _ h, frozen_of_row _ _ _ _ _ h⟩

/-- Where the copying stands. -/
structure CpE (w : World) (k id : Int) (t : ByteArray) (v nv : Value) (W : World) : Prop where
  b : Box5 W w.heap.size (.int .i64 k) (.int .i64 id) (.string t) v nv
  z : Box5 W (w.heap.size + 1) (.int .i64 0) (.int .i64 0) (.string ⟨#[]⟩) (.slice none 0 0) (.slice none 0 0)
  below : Below w.heap.size w W

theorem CpE.grown {w W W' : World} {k id : Int} {t : ByteArray} {v nv : Value} (h : CpE w k id t v nv W) (G : W.grownBy W' none) : CpE w k id t v nv W' := by
  have GB := grown_none G
  refine ⟨?_, ?_, below_on h.below GB h.below.size⟩
  · unfold Box5; rw [GB.block _ h.b.facts.2.2.2.2.2]; exact h.b
  · unfold Box5; rw [GB.block _ h.z.facts.2.2.2.2.2]; exact h.z

theorem CpE.store {w W1 : World} {k id : Int} {t : ByteArray} {ov nv : Value} (h : CpE w k id t ov nv W1) (v : Value) : CpE w k id t v nv (W1.setCell ⟨w.heap.size, 3, none⟩ v) := by
  refine ⟨?_, ?_, h.below.setCell (Nat.le_refl _) _⟩
  · unfold Box5; rw [heap_setCell_same _ _ _ _ _ _ h.b]; rfl
  · unfold Box5; rw [heap_setCell_other _ _ _ _ (by simp)]; exact h.z

theorem CpE.start (w : World) (k id : Int) (t : ByteArray) (ov nv : Value) : CpE w k id t ov nv ((w.alloc (.cells #[.int .i64 k, .int .i64 id, .string t, ov, nv] 35)).alloc (.cells #[.int .i64 0, .int .i64 0, .string ⟨#[]⟩, .slice none 0 0, .slice none 0 0] 35)) := by
  refine ⟨?_, ?_, (below_alloc w _).alloc (by simp) _⟩
  · unfold Box5; rw [Below.heap_alloc _ _ _ (by simp), heap_new]
  · exact heap_new' _ _ (by simp)

theorem cpe_end {w W4 : World} {k id : Int} {t : ByteArray} {ov nv v1 v3 : Value} {n m : Nat} {xs ys : List Value} (C : CpE w k id t ov nv W4) (O4 : W4.ownsRow (w.heap.size + 2) 42 3 v1 n xs) (O5 : W4.ownsRow (w.heap.size + 2) 42 3 v3 m ys) :
    Below w.heap.size w ((W4.setCell { block := w.heap.size, off := 4 } v3).setCells (w.heap.size + 1) 0 [.int .i64 k, .int .i64 id, .string t, v1, v3]) ∧
    Box5 ((W4.setCell { block := w.heap.size, off := 4 } v3).setCells (w.heap.size + 1) 0 [.int .i64 k, .int .i64 id, .string t, v1, v3]) (w.heap.size + 1) (.int .i64 k) (.int .i64 id) (.string t) v1 v3 ∧
    ((W4.setCell { block := w.heap.size, off := 4 } v3).setCells (w.heap.size + 1) 0 [.int .i64 k, .int .i64 id, .string t, v1, v3]).ownsRow w.heap.size 42 3 v1 n xs ∧
    ((W4.setCell { block := w.heap.size, off := 4 } v3).setCells (w.heap.size + 1) 0 [.int .i64 k, .int .i64 id, .string t, v1, v3]).ownsRow w.heap.size 42 3 v3 m ys := by
  have far : ∀ q, w.heap.size + 2 ≤ q → ((W4.setCell { block := w.heap.size, off := 4 } v3).setCells (w.heap.size + 1) 0 [.int .i64 k, .int .i64 id, .string t, v1, v3]).heap[q]? = W4.heap[q]? := fun q hq => by
    rw [heap_sets_ne (by omega), heap_setCell_other _ _ _ _ (by simp; omega)]
  refine ⟨below_sets (by omega) _ _ _ (C.below.setCell (by simp) _), ?_, ?_, ?_⟩
  · have h0 : (W4.setCell { block := w.heap.size, off := 4 } v3).heap[w.heap.size + 1]? = some (.cells #[.int .i64 0, .int .i64 0, .string ⟨#[]⟩, .slice none 0 0, .slice none 0 0] 35 (0, 0)) := by
      rw [heap_setCell_other _ _ _ _ (by simp)]; exact C.z
    have h1 := heap_setCell_same _ _ 0 _ _ (.int .i64 k) h0
    have h2 := heap_setCell_same _ _ 1 _ _ (.int .i64 id) h1
    have h3 := heap_setCell_same _ _ 2 _ _ (.string t) h2
    have h4 := heap_setCell_same _ _ 3 _ _ v1 h3
    exact heap_setCell_same _ _ 4 _ _ v3 h4
  · exact owns_mono (owns_below O4 fun q hq => far q (World.ownsRow.lt O4 q hq).1) fun q hq => by have := (World.ownsRow.lt O4 q hq).1; omega
  · exact owns_mono (owns_below O5 fun q hq => far q (World.ownsRow.lt O5 q hq).1) fun q hq => by have := (World.ownsRow.lt O5 q hq).1; omega

/-- A first append of the call's own lies behind. -/
theorem app_base {B : Nat} {W W' : World} {v : Value} {e s n : Nat} {xs : List Value} (O : W'.ownsRow 0 e s v n xs) (A : v.ownBlock = (Value.slice none 0 0).ownBlock ∨ v.ownBlock = some W.heap.size) (hB : B ≤ W.heap.size) : W'.ownsRow B e s v n xs :=
  owns_mono O fun q hq => by
    rcases A with e | e
    · rw [e] at hq; cases hq
    · rw [e] at hq; cases hq; exact hB

set_option maxRecDepth 100000 in
set_option maxHeartbeats 1000000 in
theorem copied_walk {r : RE} {c : En} {w : World} (h : MeansE w r c) : Calls Try.prog 25 #[reV r] w fun e w' => ∃ r', e = .returned (reV r') ∧ CopiedE w w' r r' c := by
  obtain ⟨k, id, t, oa, ol, oc, na, nl, nc⟩ := r
  obtain ⟨-, -, -, hol, hnl, hob, hnb, ho, hn, hoc, hnc⟩ := h
  dsimp only at *
  unfold reV
  dsimp only
  go_enter Try.func25, Try.ntmps25
  have H1 : Hid (∀ W, Below w.heap.size w W → Src W oa ol oc (flat vaC c.o)) := fun W hW => (ho.below hW).srcG hol hoc
  have H2 : Hid (∀ W, Below w.heap.size w W → Src W na nl nc (flat vaC c.n)) := fun W hW => (hn.below hW).srcG hnl hnc
  have L1 : Hid ((flat vaC c.o).length = ol * 3) := by show _ = _; rw [flat_length vaC_len, hol]
  have L2 : Hid ((flat vaC c.n).length = nl * 3) := by show _ = _; rw [flat_length vaC_len, hnl]
  clear ho hn hol hnl
  go_wp2_with (first | (at_builtin; revert H1) | go_in)
  intro H1
  refine to_letter (F := fun W => CpE w k id t (.slice oa ol oc) (.slice na nl nc) W) (CpE.start _ _ _ _ _ _) ?_
  intro W0 C0
  have hz0 : w.heap.size + 2 ≤ W0.heap.size := by have := C0.z.facts.2.2.2.2.2; omega
  refine append_src Try.underlying33 infoVal rfl (by decide) (by decide) rfl _ _ rfl 0 (Nat.zero_le _) _ 0 [] rfl (World.ownsRow_nil _ _ _ _) oa ol oc (flat vaC c.o) rfl (H1.out _ C0.below) L1.out (flat_one vaC_one) (by omega) ?_
  intro v1 W1 O1 G1 A1
  have C1 := C0.grown G1
  rw [List.nil_append, Nat.zero_add] at O1
  have O1' := app_base (B := w.heap.size + 2) O1 A1 hz0
  clear O1 G1 A1 H1 C0 hz0
  obtain ⟨oa1, oc1, rfl⟩ := owns_slice O1'
  have HO1 := dhid O1'
  have HC1 := dhid C1
  obtain ⟨x0, x1, x2, x3, x4, xl⟩ := C1.b.facts
  obtain ⟨y0, y1, y2, y3, y4⟩ := C1.b.froz
  clear O1' C1
  go_wp2_with (first | (at_builtin; revert HC1) | go_in)
  intro HC1
  refine to_letter (F := fun W => CpE w k id t (.slice oa1 ol oc1) (.slice na nl nc) W ∧ W.ownsRow (w.heap.size + 2) 42 3 (.slice oa1 ol oc1) ol (flat vaC c.o)) ⟨HC1.out.store _, owns_below HO1.out fun q hq => heap_setCell_other _ _ _ _ ?_⟩ ?_
  · have := (World.ownsRow.lt HO1.out q hq).1
    show q ≠ w.heap.size
    omega
  rintro W2 ⟨C2, O2⟩
  clear x0 x1 x2 x3 x4 y0 y1 y2 y3 y4 xl HC1 HO1
  have hz2 : w.heap.size + 2 ≤ W2.heap.size := by have := C2.z.facts.2.2.2.2.2; omega
  refine append_src Try.underlying33 infoVal rfl (by decide) (by decide) rfl _ _ rfl 0 (Nat.zero_le _) _ 0 [] rfl (World.ownsRow_nil _ _ _ _) na nl nc (flat vaC c.n) rfl (H2.out _ C2.below) L2.out (flat_one vaC_one) (by omega) ?_
  intro v3 W3 O3 G3 A3
  rw [List.nil_append, Nat.zero_add] at O3
  obtain ⟨oa3, oc3, rfl⟩ := owns_slice O3
  refine to_letter (F := fun W => CpE w k id t (.slice oa1 ol oc1) (.slice na nl nc) W ∧ W.ownsRow (w.heap.size + 2) 42 3 (.slice oa1 ol oc1) ol (flat vaC c.o) ∧ W.ownsRow (w.heap.size + 2) 42 3 (.slice oa3 nl oc3) nl (flat vaC c.n)) ⟨C2.grown G3, owns_on O2 (grown_none G3), app_base O3 A3 hz2⟩ ?_
  clear O3 G3 A3 O2 C2 hz2
  rintro W4 ⟨C4, O4, O5⟩
  obtain ⟨x0, x1, x2, x3, x4, xl⟩ := C4.b.facts
  obtain ⟨y0, y1, y2, y3, y4⟩ := C4.b.froz
  obtain ⟨x0', x1', x2', x3', x4', xl'⟩ := C4.z.facts
  obtain ⟨y0', y1', y2', y3', y4'⟩ := C4.z.froz
  have HX := dhid C4
  have HO4 := dhid O4
  have HO5 := dhid O5
  clear C4 O4 O5 H2 L1 L2
  go_wp2
  refine to_letter (F := fun W => Below w.heap.size w W ∧ Box5 W (w.heap.size + 1) (.int .i64 k) (.int .i64 id) (.string t) (.slice oa1 ol oc1) (.slice oa3 nl oc3) ∧ W.ownsRow w.heap.size 42 3 (.slice oa1 ol oc1) ol (flat vaC c.o) ∧ W.ownsRow w.heap.size 42 3 (.slice oa3 nl oc3) nl (flat vaC c.n)) (cpe_end HX.out HO4.out HO5.out) ?_
  clear x0 x1 x2 x3 x4 y0 y1 y2 y3 y4 xl x0' x1' x2' x3' x4' y0' y1' y2' y3' y4' xl' HX HO4 HO5
  rintro W6 ⟨B6, C6, O6, O7⟩
  obtain ⟨x0, x1, x2, x3, x4, -⟩ := C6.facts
  exact bodyPost_ret (v := reV ⟨k, id, t, oa1, ol, oc1, oa3, nl, oc3⟩) (by simp [results, Try.results25, go_sem, reV, x0, x1, x2, x3, x4]) rfl ⟨⟨k, id, t, oa1, ol, oc1, oa3, nl, oc3⟩, rfl, rfl, rfl, rfl, B6, O6, O7⟩
end Go.Proofs.Ytdiagnmkfnhnjaa
