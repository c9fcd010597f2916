/-
  DeltaTracks: the tracker and the document's list side by side; a note in both.
-/
import Derived.Test.YtmcbpopeinabcaaDlTr
import Derived.Test.YtmcbpopeinabcaaDlI
import Derived.Test.YtmcbpopeinabcaaTwoC
import Derived.ArgAppend
namespace Go.Proofs.Ytmcbpopeinabcaa
open Go.RowKit

theorem Trk.weak {B : Nat} {F : Nat → Prop} {tr : Nat} {v : Value} {L : List PC} {W : World} (h : Trk B F tr v L W) : Trk B (fun _ => True) tr v L W := ⟨h.box, h.base, h.own, h.lone, fun _ _ => ⟨fun _ _ => trivial, fun _ _ => trivial⟩⟩

/-- What stands at a round's begin. -/
structure TkI (w : World) (tr : Nat) (v : Value) (L : List PC) (a : Option Addr) (n c : Nat) (N : List PC) (W : World) : Prop where
  trk : Trk w.heap.size (fun _ => True) tr v L W
  below : Below w.heap.size w W
  doc : DocL w.heap.size a n c N W
  all : AllM w N
  same : L.map (·.2) = N.map (·.2)

theorem TkI.on {w : World} {tr : Nat} {v : Value} {L : List PC} {a : Option Addr} {n c : Nat} {N : List PC} {W W' : World} (h : TkI w tr v L a n c N W) (hb : Below W.heap.size W W') : TkI w tr v L a n c N W' :=
  ⟨h.trk.on hb, below_on h.below hb h.below.size, h.doc.on hb, h.all, h.same⟩

/-- A block of another kind is none of a tracker's. -/
theorem Trk.far {B : Nat} {F : Nat → Prop} {tr : Nat} {v : Value} {L : List PC} {W : World} (h : Trk B F tr v L W) {g e : Nat} {cur : Array Value} (hg : W.heap[g]? = some (Obj.cells cur e (0, 0))) (h1 : e ≠ 69) (h2 : e ≠ 27) : g ≠ tr ∧ v.ownBlock ≠ some g := by
  constructor
  · rintro rfl
    rw [h.box] at hg
    cases hg
    exact h1 rfl
  · intro hv
    rcases h.own.2 with ⟨rfl, _⟩ | ⟨g', cap, cur', rfl, _, hg', _⟩
    · cases hv
    · cases hv
      rw [hg] at hg'
      cases hg'
      exact h2 rfl

theorem lit_chgs (W : World) (x : PC) (k : Nat) (hk : k = W.heap.size) (hm : MeansW W x.1 x.2) : ChgsIn (W.alloc (.cells #[.string x.1.t, .int .i64 x.1.id, .slice x.1.oa x.1.ol x.1.oc, .slice x.1.na x.1.nl x.1.nc] 27)) (some ⟨k, 0, none⟩) [x] := by
  subst hk
  refine ⟨Or.inr ⟨_, 0, rfl, by simp, fun j y hj => ?_⟩, fun y hy => ?_, by simp [maxLen]⟩
  · cases j with
    | zero =>
      simp at hj
      subst hj
      have h := go_heap_new W (.cells #[.string x.1.t, .int .i64 x.1.id, .slice x.1.oa x.1.ol x.1.oc, .slice x.1.na x.1.nl x.1.nc] 27)
      exact ⟨cell_of_row _ _ _ _ _ _ h, cell_of_row _ _ _ _ _ _ h, cell_of_row _ _ _ _ _ _ h, cell_of_row _ _ _ _ _ _ h⟩
    | succ j => simp at hj
  · simp at hy
    subst hy
    exact hm.below (below_alloc _ _)

/-- A step in its variable. -/
def BoxS (W : World) (b : Nat) (x : StepD) : Prop := W.heap[b]? = some (.cells #[.int .i64 x.k, .int .i64 x.n, .string x.c.1.t, .int .i64 x.c.1.id, .slice x.c.1.oa x.c.1.ol x.c.1.oc, .slice x.c.1.na x.c.1.nl x.c.1.nc] 52 (0, 0))

theorem BoxS.facts {W : World} {b : Nat} {x : StepD} (h : BoxS W b x) : W.cell? ⟨b, 0, none⟩ = some (.int .i64 x.k) ∧ W.cell? ⟨b, 1, none⟩ = some (.int .i64 x.n) ∧ W.cell? ⟨b, 2, none⟩ = some (.string x.c.1.t) ∧ W.cell? ⟨b, 3, none⟩ = some (.int .i64 x.c.1.id) ∧ W.cell? ⟨b, 4, none⟩ = some (.slice x.c.1.oa x.c.1.ol x.c.1.oc) ∧ W.cell? ⟨b, 5, none⟩ = some (.slice x.c.1.na x.c.1.nl x.c.1.nc) ∧ b < W.heap.size :=
  ⟨cell_of_row _ _ _ _ _ _ h, cell_of_row _ _ _ _ _ _ h, cell_of_row _ _ _ _ _ _ h, cell_of_row _ _ _ _ _ _ h, cell_of_row _ _ _ _ _ _ h, cell_of_row _ _ _ _ _ _ h, (Array.getElem?_eq_some_iff.1 h).1⟩

theorem vcs_set : ∀ (l : List Va) (t : Nat) (v : Va) (z : Int), l[t]? = some v → (vcs l).set (t * 3 + 1) (.int .i64 z) = vcs (l.set t { v with n := z })
  | [], t, v, z, h => by simp at h
  | u :: l, t, v, z, h => by
    have e : ∀ (y : Va) m, vcs (y :: m) = .int .i64 y.k :: .int .i64 y.n :: .string y.s :: vcs m := fun _ _ => rfl
    cases t with
    | zero => simp at h; subst h; rw [List.set_cons_zero, e, e]; rfl
    | succ t =>
      rw [List.set_cons_succ, e, e, show (t + 1) * 3 + 1 = (t * 3 + 1) + 3 by omega, ← vcs_set l t v z (by simpa using h)]
      rfl

/-- A number in a row of values is stored: still a row of values. -/
theorem row_store {W : World} {B : Nat} {v : Value} {n : Nat} {m : List Va} (h : W.ownsRow B 55 3 v n (vcs m)) (q t : Nat) (z : Int) : ∃ m' : List Va, m'.length = m.length ∧ (W.setCell ⟨q, t * 3 + 1, none⟩ (.int .i64 z)).ownsRow B 55 3 v n (vcs m') := by
  by_cases hq : v.ownBlock = some q
  · obtain ⟨h1, h2⟩ := h
    have hm : m.length = n := by rw [vcs_length] at h1; omega
    rcases h2 with ⟨rfl, _⟩ | ⟨g, cap, cur, rfl, g1, g2, g3, g4, g5, g6⟩
    · cases hq
    · cases hq
      have g2' := heap_setCell_same _ _ (t * 3 + 1) _ _ (.int .i64 z) g2
      by_cases ht : t < n
      · obtain ⟨v, hv⟩ : ∃ v, m[t]? = some v := ⟨m[t], List.getElem?_eq_getElem (by omega)⟩
        refine ⟨m.set t { v with n := z }, by simp, by rw [vcs_length]; simp [hm], Or.inr ⟨g, cap, _, rfl, g1, g2', g3, g4, by simpa using g5, ?_⟩⟩
        rw [← vcs_set m t v z hv, ← g6]
        simp [List.take_set]
      · refine ⟨m, rfl, h1, Or.inr ⟨g, cap, _, rfl, g1, g2', g3, g4, by simpa using g5, ?_⟩⟩
        rw [← g6]
        simp only [Array.toList_setIfInBounds]
        rw [List.take_set_of_le (by omega)]
  · exact ⟨m, rfl, owns_below h fun p hp => heap_setCell_other _ _ _ _ (fun e => hq (by have e' : p = q := e; rw [← e']; exact hp))⟩

/-- What Since has answered, while the law stores into it. -/
structure LW (W3 : World) (a4 : Option Addr) (L4 c4 : Nat) (N4 : List PC) (W : World) : Prop where
  below : Below W3.heap.size W3 W
  row : W.ownsRow W3.heap.size 27 4 (.slice a4 L4 c4) L4 (rcs N4)
  rows : ∀ x ∈ N4, ∃ m : List Va, m.length = x.1.nl ∧ W.ownsRow W3.heap.size 55 3 (.slice x.1.na x.1.nl x.1.nc) x.1.nl (vcs m)

theorem LW.store {W3 : World} {a4 : Option Addr} {L4 c4 : Nat} {N4 : List PC} {W : World} (h : LW W3 a4 L4 c4 N4 W) {x : PC} (hx : x ∈ N4) {q : Nat} (hq : x.1.na = some ⟨q, 0, none⟩) (t : Nat) (z : Int) : LW W3 a4 L4 c4 N4 (W.setCell ⟨q, t * 3 + 1, none⟩ (.int .i64 z)) := by
  obtain ⟨m, hm, ho⟩ := h.rows x hx
  have hb : Value.ownBlock (.slice x.1.na x.1.nl x.1.nc) = some q := by rw [hq]; rfl
  refine ⟨h.below.setCell (ho.lt q hb).1 _, owns_below h.row fun p hp => heap_setCell_other _ _ _ _ (fun e => owns_ne ho h.row (by decide) hb (by have e' : p = q := e; rw [← e']; exact hp)), fun y hy => ?_⟩
  obtain ⟨m', hm', ho'⟩ := h.rows y hy
  obtain ⟨m2, h2, h3⟩ := row_store ho' q t z
  exact ⟨m2, by omega, h3⟩

theorem LW.num {W3 : World} {a4 : Option Addr} {L4 c4 : Nat} {N4 : List PC} {W : World} (h : LW W3 a4 L4 c4 N4 W) {x : PC} (hx : x ∈ N4) {t : Nat} (ht : t < x.1.nl) : ∃ q z, x.1.na = some ⟨q, 0, none⟩ ∧ W.cell? ⟨q, t * 3 + 1, none⟩ = some (.int .i64 z) ∧ W.frozen? ⟨q, t * 3 + 1, none⟩ = false ∧ q < W.heap.size := by
  obtain ⟨m, hm, ho⟩ := h.rows x hx
  obtain ⟨v, hv⟩ : ∃ v, m[t]? = some v := ⟨m[t]'(by omega), List.getElem?_eq_getElem (by omega)⟩
  rcases ho.2 with ⟨e1, e2⟩ | ⟨g, cap, cur, e1, g1, g2, g3, g4, g5, g6⟩
  · omega
  · injection e1 with e1 e2 e3
    refine ⟨g, v.n, e1, ?_, frozen_of_row _ _ _ _ _ g2, (Array.getElem?_eq_some_iff.1 g2).1⟩
    have hc := ho.cells (g := g) (by rw [e1]; rfl) (t * 3 + 1) _ (vcs_at m t v hv).2.1
    rw [add_none, Nat.zero_add] at hc
    exact hc

theorem LW.item {W3 : World} {a4 : Option Addr} {L4 c4 : Nat} {N4 : List PC} {W : World} (h : LW W3 a4 L4 c4 N4 W) {i : Nat} (hi : i < L4) : ∃ g x, a4 = some ⟨g, 0, none⟩ ∧ N4[i]? = some x ∧ W.cell? ⟨g, i * 4 + 3, none⟩ = some (.slice x.1.na x.1.nl x.1.nc) ∧ g < W.heap.size := by
  have hl := (owns_slc h.row).1
  rcases h.row.2 with ⟨e1, e2⟩ | ⟨g, cap, cur, e1, g1, g2, _⟩
  · omega
  · cases e1
    have hx := List.getElem?_eq_getElem (l := N4) (i := i) (by omega)
    refine ⟨g, _, rfl, hx, ?_, (Array.getElem?_eq_some_iff.1 g2).1⟩
    have hc := h.row.cells (g := g) rfl (i * 4 + 3) _ (rcs_at N4 i _ hx).2.2.2
    rw [add_none, Nat.zero_add] at hc
    exact hc

/-- The law's own copy of a change. -/
structure CpN (W3 : World) (CB : Nat) (x : StepD) (oa2 : Option Addr) (oc2 : Nat) (na2 : Option Addr) (nc2 : Nat) (W : World) : Prop where
  below : Below W3.heap.size W3 W
  box : Box4 W CB (.string x.c.1.t) (.int .i64 x.c.1.id) (.slice oa2 x.c.1.ol oc2) (.slice na2 x.c.1.nl nc2)
  o : SlV W oa2 x.c.2.o
  oc : oa2 = none → oc2 = 0
  n : W.ownsRow W3.heap.size 55 3 (.slice na2 x.c.1.nl nc2) x.c.1.nl (vcs x.c.2.n)

theorem cpn_end {W3 U W : World} {CB : Nat} {x : StepD} {a5 a7 : Option Addr} {k5 k7 : Nat} (hCB : W3.heap.size = CB) (hU : Below W3.heap.size W3 U) (hb : Below CB U W) (hbox : Box4 W CB (.string x.c.1.t) (.int .i64 x.c.1.id) (.slice a5 x.c.1.ol k5) (.slice a7 x.c.1.nl k7)) (h5 : W.ownsRow U.heap.size 55 3 (.slice a5 x.c.1.ol k5) x.c.1.ol (vcs x.c.2.o)) (h7 : W.ownsRow U.heap.size 55 3 (.slice a7 x.c.1.nl k7) x.c.1.nl (vcs x.c.2.n)) : CpN W3 CB x a5 k5 a7 k7 W := by
  subst hCB
  exact ⟨hU.trans hb, hbox, (owns_sl h5).2.1, (owns_sl h5).2.2.1, owns_mono h7 fun q hq => Nat.le_trans hU.size (h7.lt q hq).1⟩

theorem op_fa {o : Oper} {a : Act} {w : World} {K : Act → World → Prop} {Q : Exit → Act → World → Prop} {s X fo : Nat} (ho : o.op = .fieldAddr 27 (.tmp s) fo) (hs : a.eval (.tmp s) = .pointer (some ⟨X, 0, none⟩)) (hfo : fo = 2 ∨ fo = 3) (hK : K (a.put o.dst (.pointer (some ⟨X, fo, none⟩))) w) : Oper.wp Try.prog o a w K Q := by
  have hs' : a.tmps[s]?.getD undef = .pointer (some ⟨X, 0, none⟩) := by simpa [Act.eval] using hs
  unfold Oper.wp
  rcases hfo with rfl | rfl
  · simp [execOp, ho, go_sem, hs', run_underlying Try.underlying27]
    exact hK
  · simp [execOp, ho, go_sem, hs', run_underlying Try.underlying27]
    exact hK

/-- The law's copy as its cells have it. -/
def cpR (x : StepD) (oa2 : Option Addr) (oc2 : Nat) (na2 : Option Addr) (nc2 : Nat) : RC := ⟨x.c.1.t, x.c.1.id, oa2, x.c.1.ol, oc2, na2, x.c.1.nl, nc2⟩

theorem CpN.means {w W3 : World} {CB : Nat} {x : StepD} {oa2 na2 : Option Addr} {oc2 nc2 : Nat} {W : World} (h : CpN W3 CB x oa2 oc2 na2 nc2 W) (hm : Means w x.c.1 x.c.2) : Means W (cpR x oa2 oc2 na2 nc2) x.c.2 :=
  ⟨hm.t, hm.id, hm.ol, hm.nl, hm.ob, hm.nb, h.o, (owns_sl h.n).2.1, h.oc, (owns_sl h.n).2.2.1, hm.tb, hm.ib⟩

/-- Behind the tracker's Note: it, the document's list, the step, the copy and its row. -/
structure NtX (w : World) (tr : Nat) (lo hi : Nat) (v : Value) (L : List PC) (a : Option Addr) (n c : Nat) (N : List PC) (A CB : Nat) (x : StepD) (oa2 : Option Addr) (oc2 : Nat) (na2 : Option Addr) (nc2 : Nat) (m : List Va) (W : World) : Prop where
  trk : Trk w.heap.size (fun b => b < lo ∨ hi ≤ b) tr v L W
  below : Below w.heap.size w W
  doc : DocL w.heap.size a n c N W
  bo : BoxS W A x
  box : Box4 W CB (.string x.c.1.t) (.int .i64 x.c.1.id) (.slice oa2 x.c.1.ol oc2) (.slice na2 x.c.1.nl nc2)
  row : W.ownsRow w.heap.size 55 3 (.slice na2 x.c.1.nl nc2) x.c.1.nl (vcs m)
  mid : ∀ g, Value.ownBlock (.slice na2 x.c.1.nl nc2) = some g → lo ≤ g ∧ g < hi

theorem NtX.kind {w : World} {tr lo hi : Nat} {v : Value} {L : List PC} {a a1 : Option Addr} {n c n1 c1 : Nat} {N N1 : List PC} {A CB : Nat} {x : StepD} {oa2 na2 : Option Addr} {oc2 nc2 : Nat} {m : List Va} {W W' : World} (h : NtX w tr lo hi v L a n c N A CB x oa2 oc2 na2 nc2 m W) (hb : Below w.heap.size W W') (hk : ∀ (g e : Nat) (cur : Array Value), W.heap[g]? = some (Obj.cells cur e (0, 0)) → e ≠ 30 → W'.heap[g]? = W.heap[g]?) (hd : DocL w.heap.size a1 n1 c1 N1 W') : NtX w tr lo hi v L a1 n1 c1 N1 A CB x oa2 oc2 na2 nc2 m W' := by
  have hr : ∀ {b e z k : Nat} {u : Value} {xs : List Value}, W.ownsRow b e z u k xs → e ≠ 30 → ∀ p, u.ownBlock = some p → W'.heap[p]? = W.heap[p]? := fun ho he p hp => by
    obtain ⟨cur, hc⟩ := Rw.owns_block ho hp
    exact hk p _ cur hc he
  refine ⟨⟨by rw [hk _ _ _ h.trk.box (by decide)]; exact h.trk.box, h.trk.base, owns_below h.trk.own (hr h.trk.own (by decide)), lone_of h.trk.lone fun y hy => ⟨hr (h.trk.lone.rows y hy).2 (by decide), hr (h.trk.lone.rows y hy).1 (by decide)⟩, h.trk.fa⟩, h.below.trans hb, hd, (hk _ _ _ h.bo (by decide)).trans h.bo, (hk _ _ _ h.box (by decide)).trans h.box, owns_below h.row (hr h.row (by decide)), h.mid⟩

theorem NtX.on {w : World} {tr lo hi : Nat} {v : Value} {L : List PC} {a : Option Addr} {n c : Nat} {N : List PC} {A CB : Nat} {x : StepD} {oa2 na2 : Option Addr} {oc2 nc2 : Nat} {m : List Va} {W W' : World} (h : NtX w tr lo hi v L a n c N A CB x oa2 oc2 na2 nc2 m W) (hb : Below W.heap.size W W') : NtX w tr lo hi v L a n c N A CB x oa2 oc2 na2 nc2 m W' :=
  h.kind (hb.mono h.below.size) (fun g _ _ hg _ => hb.block g (Array.getElem?_eq_some_iff.1 hg).1) (h.doc.on hb)

/-- The tracker's Note, as the law calls it. -/
theorem note_ok {w W3 W : World} {tr : Nat} {v : Value} {L : List PC} {a : Option Addr} {n c : Nat} {N : List PC} {A CB : Nat} {x : StepD} {oa2 na2 : Option Addr} {oc2 nc2 : Nat} (ht : TkI w tr v L a n c N W3) (cp : CpN W3 CB x oa2 oc2 na2 nc2 W) (hCB : W3.heap.size = CB) (hbo : BoxS W3 A x) (hm : Means w x.c.1 x.c.2) (hn : L.length ≤ 200) :
    Calls Try.prog 22 #[.pointer (some ⟨tr, 0, none⟩), .agg #[.string x.c.1.t, .int .i64 x.c.1.id, .slice oa2 x.c.1.ol oc2, .slice na2 x.c.1.nl nc2]] W fun e w' => e = .returned (.tuple #[]) ∧ ∃ r' v', NtX w tr W3.heap.size W.heap.size v' (L ++ [(r', x.c.2)]) a n c N A CB x oa2 oc2 na2 nc2 x.c.2.n w' := by
  have hT := ht.trk.any.on cp.below
  have hw3 : w.heap.size ≤ W3.heap.size := ht.below.size
  refine (note_walk hT (cp.means hm) hn).mono ?_
  rintro e w' ⟨rfl, r', v', T4, B4, K4⟩
  have hkk : ∀ {g e : Nat} {cur : Array Value}, W.heap[g]? = some (Obj.cells cur e (0, 0)) → e ≠ 69 → e ≠ 27 → w'.heap[g]? = W.heap[g]? := fun hg h1 h2 => K4 _ (Array.getElem?_eq_some_iff.1 hg).1 (hT.far hg h1 h2).1 (hT.far hg h1 h2).2
  have hd := ht.doc.on cp.below
  have hbo' : BoxS W A x := (cp.below.block _ (Array.getElem?_eq_some_iff.1 hbo).1).trans hbo
  refine ⟨rfl, r', v', ⟨T4, (ht.on cp.below).below.trans B4, hd.keep fun g cur hg => hkk hg (by decide) (by decide), (hkk hbo' (by decide) (by decide)).trans hbo', ?_, owns_mono (owns_below cp.n fun p hp => by obtain ⟨cur, hc⟩ := Rw.owns_block cp.n hp; exact hkk hc (by decide) (by decide)) fun p hp => Nat.le_trans hw3 (cp.n.lt p hp).1, fun g hg => cp.n.lt g hg⟩⟩
  refine (K4 CB (Array.getElem?_eq_some_iff.1 cp.box).1 ?_ (fun e => ?_)).trans cp.box
  · rintro rfl
    have hb := hT.box
    rw [cp.box] at hb
    injection Option.some.inj hb with _ e2 _
    exact absurd e2 (by decide)
  · have := (ht.trk.own.lt CB e).2
    omega

/-- The document's list grows by one. -/
theorem app_doc {ops : Array Oper} {rest : List Oper} {o : Oper} {act : Act} {Q : Exit → Act → World → Prop} {B : Nat} {a : Option Addr} {n c : Nat} {N : List PC} {y : PC} {W1 : World} (h : DocL B a n c N W1) (hB : B ≤ W1.heap.size) (hgd : o.guard = none) (s z : Operand) (ho : o.op = .call { callee := .builtin .append, args := #[s, z], argTypes := #[31, 31] })
    (hs : act.eval s = .slice a n c) {q : Nat} (hz : act.eval z = .slice (some ⟨q, 0, none⟩) 1 1) (hsrc : Src W1 (some ⟨q, 0, none⟩) 1 1 (rcC y.1)) (hn : n ≤ 1000)
    (hK : ∀ v' W', W'.ownsRow B 30 4 v' (n + 1) (rcs (N ++ [y])) → Below B W1 W' → (∀ (g e : Nat) (cur : Array Value), W1.heap[g]? = some (Obj.cells cur e (0, 0)) → e ≠ 30 → W'.heap[g]? = W1.heap[g]?) → wpList Try.prog ops Q rest (act.put o.dst v') W') : wpList Try.prog ops Q (o :: rest) act W1 := by
  have er : rcs (N ++ [y]) = rcs N ++ rcC y.1 := by rw [rcs_append]; simp [rcs]
  rcases h.own with hown | hcut
  · refine append_src Try.underlying31 infoRChg rfl (by decide) (by decide) hgd s z ho B hB (.slice a n c) n (rcs N) hs hown _ 1 1 (rcC y.1) hz hsrc rfl rcC_one (by omega) ?_
    intro v' W' O G _
    refine hK v' W' (by rw [er]; exact O) ((Below.refl B W1).grown G hB fun p hp => (hown.lt p hp).1) fun g e cur hg he => G.block g (Array.getElem?_eq_some_iff.1 hg).1 fun e' => ?_
    exact Rw.owns_far hown hg (Ne.symm he) e'.symm
  · obtain ⟨i, hi, hzz⟩ := Option.map_eq_some_iff.1 infoRChg
    simp only [Prod.mk.injEq] at hzz
    obtain ⟨h3, h4, h5⟩ := hzz
    have hsr : ∀ j u, (rcC y.1)[j]? = some u → W1.cell? ((⟨q, 0, none⟩ : Addr).add j) = some u := by
      rcases hsrc with ⟨e, _⟩ | ⟨ad, e, hc⟩
      · cases e
      · cases e; exact hc
    have holds : ∀ b, a = some b → ∀ j u, (rcs N)[j]? = some u → W1.cell? (b.add j) = some u := by
      intro b hb
      rcases h.src with ⟨e, _⟩ | ⟨ad, e, hc⟩
      · rw [e] at hb; cases hb
      · rw [e] at hb; cases hb; exact hc
    refine wpList_append_grows (P := Try.prog) W1 hgd s z 31 ho 30 i _ 4 72 Try.underlying31 hi h3 h4 h5 rfl (by decide) a n c (rcs N) hs (fun e => by have := h.nil e; have := h.cap; omega) (by rw [rcs_length, h.len]) holds ⟨q, 0, none⟩ 1 1 (rcC y.1) hz rfl hsr rcC_one (by omega) (by unfold maxLen; omega) (by omega) ?_
    intro v' W' O G
    have gb := grown_none G
    refine hK v' W' (by rw [er]; exact owns_mono O fun p hp => Nat.le_trans hB (O.lt p hp).1) (gb.mono hB) fun g e cur hg _ => gb.block g (Array.getElem?_eq_some_iff.1 hg).1

/-- A number of the copy is stored. -/
theorem NtX.store {w : World} {tr lo hi : Nat} {v : Value} {L : List PC} {a : Option Addr} {n c : Nat} {N : List PC} {A CB : Nat} {x : StepD} {oa2 na2 : Option Addr} {oc2 nc2 : Nat} {m : List Va} {W : World} (h : NtX w tr lo hi v L a n c N A CB x oa2 oc2 na2 nc2 m W) {t : Nat} (ht : t < x.c.1.nl) :
    ∃ g z, na2 = some ⟨g, 0, none⟩ ∧ W.cell? ⟨g, t * 3 + 1, none⟩ = some (.int .i64 z) ∧ W.frozen? ⟨g, t * 3 + 1, none⟩ = false ∧ g < W.heap.size ∧ ∀ z', ∃ m', NtX w tr lo hi v L a n c N A CB x oa2 oc2 na2 nc2 m' (W.setCell ⟨g, t * 3 + 1, none⟩ (.int .i64 z')) := by
  have hml : m.length = x.c.1.nl := (owns_sl h.row).1
  rcases Rw.owns_addr h.row with ⟨-, h0, -⟩ | ⟨g, rfl⟩
  · omega
  have hgt := h.row.lt g rfl
  obtain ⟨cur, hc⟩ := Rw.owns_block h.row (q := g) rfl
  have hy := List.getElem?_eq_getElem (l := m) (i := t) (by omega)
  have hcell := World.ownsRow.cells h.row (g := g) rfl (t * 3 + 1) _ (vcs_at m t _ hy).2.1
  rw [add_none, Nat.zero_add] at hcell
  refine ⟨g, _, rfl, hcell, frozen_of_row _ _ _ _ _ hc, hgt.2, fun z' => ?_⟩
  obtain ⟨m', _, hm'⟩ := row_store h.row g t z'
  have hne : ∀ {b e : Nat} {cu : Array Value}, W.heap[b]? = some (Obj.cells cu e (0, 0)) → e ≠ 55 → (W.setCell ⟨g, t * 3 + 1, none⟩ (.int .i64 z')).heap[b]? = W.heap[b]? := fun hb he => heap_setCell_other _ _ _ _ (by rintro rfl; rw [hc] at hb; cases hb; exact he rfl)
  have hF : ∀ b, (b < lo ∨ hi ≤ b) → b < W.heap.size → (W.setCell ⟨g, t * 3 + 1, none⟩ (.int .i64 z')).heap[b]? = W.heap[b]? := fun b hb _ => heap_setCell_other _ _ _ _ (by rintro rfl; have := h.mid b rfl; omega)
  refine ⟨m', h.trk.keep (hne h.trk.box (by decide)) (fun p hp => by obtain ⟨cu, hb⟩ := Rw.owns_block h.trk.own hp; exact hne hb (by decide)) hF, h.below.setCell hgt.1 _, h.doc.keep fun b cu hb => hne hb (by decide), (hne h.bo (by decide)).trans h.bo, (hne h.box (by decide)).trans h.box, hm', h.mid⟩

theorem NtX.tki {w : World} {tr lo hi : Nat} {v : Value} {L : List PC} {a a0 : Option Addr} {n c n0 c0 : Nat} {N : List PC} {A CB : Nat} {x : StepD} {oa2 na2 : Option Addr} {oc2 nc2 : Nat} {m : List Va} {r' : RC} {v0 : Value} {W W3 : World} (h : NtX w tr lo hi v (L ++ [(r', x.c.2)]) a n c (N ++ [x.c]) A CB x oa2 oc2 na2 nc2 m W) (h0 : TkI w tr v0 L a0 n0 c0 N W3) (hm : Means w x.c.1 x.c.2) : TkI w tr v (L ++ [(r', x.c.2)]) a n c (N ++ [x.c]) W := by
  refine ⟨h.trk.weak, h.below, h.doc, fun y hy => ?_, by simp [h0.same]⟩
  rcases List.mem_append.1 hy with hy | hy
  · exact h0.all y hy
  · simp at hy; subst hy; exact hm
end Go.Proofs.Ytmcbpopeinabcaa
