/-
  UndoPlays: an entry is put into both logs; the law writes over its own copy.
-/
import Derived.Test.YtdiagnmkfnhnjaaUdO
namespace Go.Proofs.Ytdiagnmkfnhnjaa
open Go.RowKit Rw

theorem op_fa {o : Oper} {a : Act} {w : World} {K : Act → World → Prop} {Q : Exit → Act → World → Prop} {s X fo : Nat} (ho : o.op = .fieldAddr 35 (.tmp s) fo) (hs : a.eval (.tmp s) = .pointer (some ⟨X, 0, none⟩)) (hfo : fo = 3 ∨ fo = 4) (hK : K (a.put o.dst (.pointer (some ⟨X, fo, none⟩))) w) : Oper.wp Try.prog o a w K Q := by
  have hs' : a.tmps[s]?.getD undef = .pointer (some ⟨X, 0, none⟩) := by simpa [Act.eval] using hs
  unfold Oper.wp
  rcases hfo with rfl | rfl
  · simp [execOp, ho, go_sem, hs', run_underlying Try.underlying35]
    exact hK
  · simp [execOp, ho, go_sem, hs', run_underlying Try.underlying35]
    exact hK

/-- The law's own copy of an entry. -/
structure CpX (U0 : World) (X : Nat) (x : OpD) (a5 : Option Addr) (k5 : Nat) (a7 : Option Addr) (k7 : Nat) (W : World) : Prop where
  below : Below U0.heap.size U0 W
  box : Box5 W X (.int .i64 x.e.1.k) (.int .i64 x.e.1.id) (.string x.e.1.t) (.slice a5 x.e.1.ol k5) (.slice a7 x.e.1.nl k7)
  o : W.ownsRow U0.heap.size 42 3 (.slice a5 x.e.1.ol k5) x.e.1.ol (flat vaC x.e.2.o)
  n : W.ownsRow U0.heap.size 42 3 (.slice a7 x.e.1.nl k7) x.e.1.nl (flat vaC x.e.2.n)
  hX : U0.heap.size ≤ X

/-- Behind both: the copy's variable, and the row that it holds. -/
structure AfX (w : World) (l d q : Nat) (s : Value) (U0 : World) (X A : Nat) (x : OpD) (a5 : Option Addr) (k5 : Nat) (a7 : Option Addr) (k7 : Nat) (J : Nat) (v' : Value) (L' : List PE) (dv' : Value) (D' : List DI) (m' : List Va) (W : World) : Prop where
  pl : PlI w l d q v' s L' dv' D' W
  len : D'.length ≤ J
  far : ∀ g, Value.ownBlock (.slice a5 x.e.1.ol k5) = some g → FarL g L'
  box : Box5 W X (.int .i64 x.e.1.k) (.int .i64 x.e.1.id) (.string x.e.1.t) (.slice a5 x.e.1.ol k5) (.slice a7 x.e.1.nl k7)
  row : W.ownsRow U0.heap.size 42 3 (.slice a5 x.e.1.ol k5) x.e.1.ol (flat vaC m')
  bo : BoxO W A x
  base : w.heap.size ≤ U0.heap.size

theorem box5_doc {B d q : Nat} {dv : Value} {D : List DI} {W W' : World} {X : Nat} {x0 x1 x2 x3 x4 : Value} (o : Box5 W X x0 x1 x2 x3 x4) (h : DLg B d q dv D W) (hk : KeepsD d W W') : Box5 W' X x0 x1 x2 x3 x4 := by
  refine (hk X (Array.getElem?_eq_some_iff.1 o).1 ?_).trans o
  rintro rfl
  have hb := h.box
  rw [o] at hb
  injection Option.some.inj hb with _ e2 _
  exact absurd e2 (by decide)

theorem boxO_doc {B d q : Nat} {dv : Value} {D : List DI} {W W' : World} {A : Nat} {x : OpD} (o : BoxO W A x) (h : DLg B d q dv D W) (hk : KeepsD d W W') : BoxO W' A x := by
  refine (hk A (Array.getElem?_eq_some_iff.1 o).1 ?_).trans o
  rintro rfl
  have hb := h.box
  rw [o] at hb
  injection Option.some.inj hb with _ e2 _
  exact absurd e2 (by decide)

theorem far_old {U0 : World} {L : List PE} (h : LoneE U0 L) {g : Nat} (hg : U0.heap.size ≤ g) : FarL g L := fun x hx => ⟨fun e => by have := ((h.rows x hx).1.lt g e).2; omega, fun e => by have := ((h.rows x hx).2.lt g e).2; omega⟩

theorem add_both {w : World} {l d q : Nat} {v s dv : Value} {L : List PE} {D : List DI} {U0 W1 : World} {X A J : Nat} {x : OpD} {a5 a7 : Option Addr} {k5 k7 : Nat} (hp : PlI w l d q v s L dv D U0) (cp : CpX U0 X x a5 k5 a7 k7 W1) (hbo : BoxO U0 A x) (hm : MeansE w x.e.1 x.e.2) (hD : D.length ≤ J) (hJ : J ≤ 1000) :
    ∃ E : Int, ∀ W, Below W1.heap.size W1 W → Calls Try.prog 9 #[.pointer (some ⟨l, 0, none⟩), .agg #[.int .i64 x.e.1.k, .int .i64 x.e.1.id, .string x.e.1.t, .slice a5 x.e.1.ol k5, .slice a7 x.e.1.nl k7]] W fun e w' => e = .returned (.int .i64 E) ∧ (Box5 w' X (.int .i64 x.e.1.k) (.int .i64 x.e.1.id) (.string x.e.1.t) (.slice a5 x.e.1.ol k5) (.slice a7 x.e.1.nl k7) ∧ BoxO w' A x) ∧
      ∀ W', Below w'.heap.size w' W' → Calls Try.prog 10 #[.pointer (some ⟨d, 0, none⟩), .agg #[.int .i64 x.e.1.k, .int .i64 x.e.1.id, .string x.e.1.t, .slice x.e.1.oa x.e.1.ol x.e.1.oc, .slice x.e.1.na x.e.1.nl x.e.1.nc]] W' fun e w'' => e = .returned (.int .i64 E) ∧ ∃ v' L' dv' D', AfX w l d q s U0 X A x a5 k5 a7 k7 (J + 1) v' L' dv' D' x.e.2.o w'' := by
  have hLn := hp.len
  have hEn := ens_len D
  have hbase : w.heap.size ≤ U0.heap.size := hp.below.size
  have hr : ∀ W, Below W1.heap.size W1 W → MeansE W ⟨x.e.1.k, x.e.1.id, x.e.1.t, a5, x.e.1.ol, k5, a7, x.e.1.nl, k7⟩ x.e.2 := fun W hW => by
    obtain ⟨o1, o2, o3⟩ := owns_slv (owns_on cp.o hW)
    obtain ⟨n1, n2, n3⟩ := owns_slv (owns_on cp.n hW)
    exact ⟨hm.k, hm.id, hm.t, o1, n1, hm.ob, hm.nb, o2, n2, o3, n3⟩
  have hfar5 : ∀ g, Value.ownBlock (.slice a5 x.e.1.ol k5) = some g → U0.heap.size ≤ g ∧ g < W1.heap.size := fun g hg => cp.o.lt g hg
  have hboW1 : BoxO W1 A x := (cp.below.block _ hbo.facts.2.2.2.2.2.2.2.2).trans hbo
  by_cases hf : L.length < q
  · refine ⟨0, fun W hW => ?_⟩
    have hpW := (hp.on cp.below).on hW
    refine (add_walk (r := ⟨x.e.1.k, x.e.1.id, x.e.1.t, a5, x.e.1.ol, k5, a7, x.e.1.nl, k7⟩) hpW.lg (hr W hW) (by omega) hf).mono ?_
    rintro e w' ⟨rfl, r', v', L', B', K', F'⟩
    have d' := hpW.dl.kept hpW.lg K'
    have hbX : Box5 w' X (.int .i64 x.e.1.k) (.int .i64 x.e.1.id) (.string x.e.1.t) (.slice a5 x.e.1.ol k5) (.slice a7 x.e.1.nl k7) := by
      have e := (hW.block _ (Array.getElem?_eq_some_iff.1 cp.box).1).trans cp.box
      refine (K' X (Array.getElem?_eq_some_iff.1 e).1 ?_ (fun e' => ?_) ?_).trans e
      · rintro rfl
        have hb := hpW.lg.box
        rw [e] at hb
        injection Option.some.inj hb with _ e2 _
        exact absurd e2 (by decide)
      · have h1 := (hp.lg.own.lt X e').2
        have h2 := cp.hX
        omega
      · exact owns_far hpW.lg.sav e (by decide)
    have hbA : BoxO w' A x := hpW.lg.kept K' ((hW.block _ hboW1.facts.2.2.2.2.2.2.2.2).trans hboW1) (by decide) (by decide) (by decide)
    have hrow : w'.ownsRow U0.heap.size 42 3 (.slice a5 x.e.1.ol k5) x.e.1.ol (flat vaC x.e.2.o) := owns_below (owns_on cp.o hW) fun p hpp => by
      obtain ⟨cur, hc⟩ := owns_block (owns_on cp.o hW) hpp
      exact (hpW.lg.kept K' hc (by decide) (by decide) (by decide)).trans hc.symm
    refine ⟨rfl, ⟨hbX, hbA⟩, fun W' hW' => ?_⟩
    have dW' := d'.on hW'
    refine (radd_walk (r := x.e.1) (c := x.e.2) dW' (by omega) (by rw [← hLn]; exact hf)).mono ?_
    rintro e w'' ⟨rfl, dv', o⟩
    have hpl := PlI.add (r' := r') (c := x.e.2) hpW (L'.on hW') (below_on (B := w.heap.size) B' hW' (Nat.le_trans hpW.below.size B'.size)) (fun b hb h1 h2 h3 => (hW'.block b (Nat.lt_of_lt_of_le hb B'.size)).trans (K' b hb h1 h2 h3)) o hm
    refine ⟨rfl, v', _, dv', _, hpl, by simp; omega, fun g hg => ?_, box5_doc ((hW'.block _ (Array.getElem?_eq_some_iff.1 hbX).1).trans hbX) dW' o.keeps, own_doc (owns_on hrow hW') dW' o.keeps (by decide), boxO_doc ((hW'.block _ hbA.facts.2.2.2.2.2.2.2.2).trans hbA) dW' o.keeps, hbase⟩
    obtain ⟨g1, g2⟩ := hfar5 g hg
    intro y hy
    rcases List.mem_append.1 hy with hy | hy
    · exact far_old hp.lg.lone g1 y hy
    · simp at hy
      subst hy
      have hW1 : W1.heap.size ≤ W.heap.size := hW.size
      exact ⟨fun e => by have := F'.1 g e; omega, fun e => by have := F'.2 g e; omega⟩
  · refine ⟨10, fun W hW => ?_⟩
    have hpW := (hp.on cp.below).on hW
    refine (add_full (r := ⟨x.e.1.k, x.e.1.id, x.e.1.t, a5, x.e.1.ol, k5, a7, x.e.1.nl, k7⟩) hpW.lg (by omega)).mono ?_
    rintro e w' ⟨rfl, B'⟩
    have b1 : Below W1.heap.size W1 w' := below_on hW B' hW.size
    have hbX : Box5 w' X (.int .i64 x.e.1.k) (.int .i64 x.e.1.id) (.string x.e.1.t) (.slice a5 x.e.1.ol k5) (.slice a7 x.e.1.nl k7) := (b1.block _ (Array.getElem?_eq_some_iff.1 cp.box).1).trans cp.box
    have hbA : BoxO w' A x := (b1.block _ hboW1.facts.2.2.2.2.2.2.2.2).trans hboW1
    refine ⟨rfl, ⟨hbX, hbA⟩, fun W' hW' => ?_⟩
    have hp' := (hpW.on B').on hW'
    refine (radd_full (r := x.e.1) hp'.dl (by omega) (by rw [← hLn]; omega)).mono ?_
    rintro e w'' ⟨rfl, B''⟩
    refine ⟨rfl, v, L, dv, D, hp'.on B'', by omega, fun g hg => far_old hp.lg.lone (hfar5 g hg).1, ?_, ?_, ?_, hbase⟩
    · exact (B''.block _ (Nat.lt_of_lt_of_le (Array.getElem?_eq_some_iff.1 hbX).1 hW'.size)).trans ((hW'.block _ (Array.getElem?_eq_some_iff.1 hbX).1).trans hbX)
    · exact owns_on (owns_on (owns_on cp.o b1) hW') B''
    · exact (B''.block _ (Nat.lt_of_lt_of_le hbA.facts.2.2.2.2.2.2.2.2 hW'.size)).trans ((hW'.block _ hbA.facts.2.2.2.2.2.2.2.2).trans hbA)

theorem vflat_set : ∀ (l : List Va) (t : Nat) (v : Va) (z : Int), l[t]? = some v → (flat vaC l).set (t * 3 + 1) (.int .i64 z) = flat vaC (l.set t { v with n := z })
  | [], t, v, z, h => by simp at h
  | u :: l, t, v, z, h => by
    have e : ∀ (y : Va) m, flat vaC (y :: m) = .int .i64 y.k :: .int .i64 y.n :: .string y.s :: flat vaC m := fun _ _ => rfl
    cases t with
    | zero => simp at h; subst h; rw [List.set_cons_zero, e, e]; rfl
    | succ t =>
      rw [List.set_cons_succ, e, e, show (t + 1) * 3 + 1 = (t * 3 + 1) + 3 by omega, ← vflat_set l t v z (by simpa using h)]
      rfl

/-- A number of the copy is stored. -/
theorem AfX.store {w : World} {l d q : Nat} {s : Value} {U0 : World} {X A : Nat} {x : OpD} {a5 : Option Addr} {k5 : Nat} {a7 : Option Addr} {k7 J : Nat} {v' : Value} {L' : List PE} {dv' : Value} {D' : List DI} {m' : List Va} {W : World} (h : AfX w l d q s U0 X A x a5 k5 a7 k7 J v' L' dv' D' m' W) {t : Nat} (ht : t < x.e.1.ol) :
    ∃ g y, a5 = some ⟨g, 0, none⟩ ∧ m'[t]? = some y ∧ W.cell? ⟨g, t * 3 + 1, none⟩ = some (.int .i64 y.n) ∧ W.frozen? ⟨g, t * 3 + 1, none⟩ = false ∧ g < W.heap.size ∧ ∀ z, AfX w l d q s U0 X A x a5 k5 a7 k7 J v' L' dv' D' (m'.set t { y with n := z }) (W.setCell ⟨g, t * 3 + 1, none⟩ (.int .i64 z)) := by
  have hml : m'.length = x.e.1.ol := (owns_slv h.row).1
  rcases owns_addr h.row with ⟨-, h0, -⟩ | ⟨g, rfl⟩
  · omega
  have hy := List.getElem?_eq_getElem (l := m') (i := t) (by omega)
  have hgt := h.row.lt g rfl
  refine ⟨g, m'[t], rfl, hy, own_at vaC_len h.row hy (i := 1) rfl, (own_fro h.row _).1, hgt.2, fun z => ?_⟩
  obtain ⟨cur, hc⟩ := owns_block h.row (q := g) rfl
  have hne : ∀ {b e : Nat} {cu : Array Value}, W.heap[b]? = some (Obj.cells cu e (0, 0)) → e ≠ 42 → (W.setCell ⟨g, t * 3 + 1, none⟩ (.int .i64 z)).heap[b]? = some (Obj.cells cu e (0, 0)) := fun hb he => by
    rw [heap_setCell_other _ _ _ _ (by rintro rfl; rw [hc] at hb; cases hb; exact he rfl)]; exact hb
  refine ⟨h.pl.store (h.far g rfl) ⟨cur, hc⟩ (Nat.le_trans h.base hgt.1) _ _, h.len, h.far, hne h.box (by decide), ?_, hne h.bo (by decide), h.base⟩
  rw [← vflat_set m' t _ z hy]
  exact own_set h.row _ _
end Go.Proofs.Ytdiagnmkfnhnjaa
