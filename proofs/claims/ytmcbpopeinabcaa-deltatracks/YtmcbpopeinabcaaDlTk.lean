/-
  Delta: the tracker in memory: New, Mark, within; its calls at no tracker.
-/
import Derived.Test.YtmcbpopeinabcaaDlS
namespace Go.Proofs.Ytmcbpopeinabcaa
open Go.RowKit

def InF (F : Nat → Prop) (L : List PC) : Prop := ∀ x ∈ L, (∀ q, Value.ownBlock (.slice x.1.oa x.1.ol x.1.oc) = some q → F q) ∧ ∀ q, Value.ownBlock (.slice x.1.na x.1.nl x.1.nc) = some q → F q

/-- A tracker: its block, its row, the changes in it, whose lists lie in blocks of F. -/
structure Trk (B : Nat) (F : Nat → Prop) (tr : Nat) (v : Value) (L : List PC) (W : World) : Prop where
  box : W.heap[tr]? = some (.cells #[v] 69 (0, 0))
  base : B ≤ tr
  own : W.ownsRow B 27 4 v L.length (rcs L)
  lone : Lone W L
  fa : InF F L

theorem lone_of {W W' : World} {N : List PC} (h : Lone W N) (hb : ∀ x ∈ N, (∀ q, Value.ownBlock (.slice x.1.oa x.1.ol x.1.oc) = some q → W'.heap[q]? = W.heap[q]?) ∧ ∀ q, Value.ownBlock (.slice x.1.na x.1.nl x.1.nc) = some q → W'.heap[q]? = W.heap[q]?) : Lone W' N := by
  have hr : ∀ x ∈ N, W'.ownsRow 0 55 3 (.slice x.1.na x.1.nl x.1.nc) x.1.nl (vcs x.2.n) ∧ W'.ownsRow 0 55 3 (.slice x.1.oa x.1.ol x.1.oc) x.1.ol (vcs x.2.o) := fun x hx =>
    ⟨owns_below (h.rows x hx).1 (hb x hx).2, owns_below (h.rows x hx).2 (hb x hx).1⟩
  refine ⟨fun x hx => ?_, hr⟩
  have m := h.all x hx
  exact ⟨m.t, m.id, m.ol, m.nl, m.ob, m.nb, (owns_sl (hr x hx).2).2.1, (owns_sl (hr x hx).1).2.1, m.oc, m.nc, m.tb, m.ib⟩

theorem Lone.keep {F : Nat → Prop} {W W' : World} {N : List PC} (h : Lone W N) (hf : InF F N) (hb : ∀ b, F b → b < W.heap.size → W'.heap[b]? = W.heap[b]?) : Lone W' N :=
  lone_of h fun x hx => ⟨fun q hq => hb q ((hf x hx).1 q hq) ((h.rows x hx).2.lt q hq).2, fun q hq => hb q ((hf x hx).2 q hq) ((h.rows x hx).1.lt q hq).2⟩

theorem Trk.keep {B : Nat} {F : Nat → Prop} {tr : Nat} {v : Value} {L : List PC} {W W' : World} (h : Trk B F tr v L W) (ht : W'.heap[tr]? = W.heap[tr]?) (hv : ∀ q, v.ownBlock = some q → W'.heap[q]? = W.heap[q]?) (hb : ∀ b, F b → b < W.heap.size → W'.heap[b]? = W.heap[b]?) : Trk B F tr v L W' :=
  ⟨by rw [ht]; exact h.box, h.base, owns_below h.own hv, h.lone.keep h.fa hb, h.fa⟩

theorem Trk.lt {B : Nat} {F : Nat → Prop} {tr : Nat} {v : Value} {L : List PC} {W : World} (h : Trk B F tr v L W) : tr < W.heap.size := (Array.getElem?_eq_some_iff.1 h.box).1

theorem Trk.on {B : Nat} {F : Nat → Prop} {tr : Nat} {v : Value} {L : List PC} {W W' : World} (h : Trk B F tr v L W) (hb : Below W.heap.size W W') : Trk B F tr v L W' :=
  h.keep (hb.block _ h.lt) (fun q hq => hb.block q (h.own.lt q hq).2) fun b _ hlt => hb.block b hlt

theorem Trk.any {B : Nat} {F : Nat → Prop} {tr : Nat} {v : Value} {L : List PC} {W : World} (h : Trk B F tr v L W) : Trk B (· < W.heap.size) tr v L W :=
  ⟨h.box, h.base, h.own, h.lone, fun x hx => ⟨fun q hq => ((h.lone.rows x hx).2.lt q hq).2, fun q hq => ((h.lone.rows x hx).1.lt q hq).2⟩⟩

/-- A tracker's block holds no row of another kind. -/
theorem Trk.ne_tr {B : Nat} {F : Nat → Prop} {tr : Nat} {v : Value} {L : List PC} {W : World} (h : Trk B F tr v L W) {b e s n : Nat} {u : Value} {xs : List Value} (hu : W.ownsRow b e s u n xs) (he : e ≠ 69) {q : Nat} (hq : u.ownBlock = some q) : q ≠ tr := by
  rintro rfl
  rcases hu.2 with ⟨rfl, _⟩ | ⟨g, cap, cur, rfl, _, hg, _⟩
  · cases hq
  · cases hq
    rw [h.box] at hg
    cases hg
    exact he rfl

theorem Trk.ne_v {B : Nat} {F : Nat → Prop} {tr : Nat} {v : Value} {L : List PC} {W : World} (h : Trk B F tr v L W) {b e s n : Nat} {u : Value} {xs : List Value} (hu : W.ownsRow b e s u n xs) (he : e ≠ 27) {q : Nat} (hq : u.ownBlock = some q) : v.ownBlock ≠ some q := fun hv => owns_ne hu h.own he hq hv

/-- A note is laid: the tracker behind it. -/
theorem note_end {B : Nat} {F : Nat → Prop} {tr : Nat} {v v5 : Value} {L : List PC} {r r' : RC} {c : Chg} {w W3 W4 W5 : World} {o : Obj} (h : Trk B F tr v L w) (hm : Means w r c) (hb : Below w.heap.size w W3) (C : Copied W3 W4 r r' c)
    (O : W5.ownsRow B 27 4 v5 (L.length + 1) (rcs L ++ rcC r')) (G : (W4.alloc o).grownBy W5 v.ownBlock) :
    Trk B (fun b => F b ∨ w.heap.size ≤ b) tr v5 (L ++ [(r', c)]) (W5.setCell ⟨tr, 0, none⟩ v5) ∧ Below B w (W5.setCell ⟨tr, 0, none⟩ v5) ∧ ∀ b, b < w.heap.size → b ≠ tr → v.ownBlock ≠ some b → (W5.setCell ⟨tr, 0, none⟩ v5).heap[b]? = w.heap[b]? := by
  have hB : B ≤ w.heap.size := Nat.le_trans h.base (Nat.le_of_lt h.lt)
  have b4 : Below w.heap.size w (W4.alloc o) := (below_on hb C.below hb.size).alloc (below_on hb C.below hb.size).size o
  have h4 := h.on b4
  have hr' := (C.means (hm.below hb))
  have cn := owns_below (W' := W4.alloc o) C.n fun q hq => Below.heap_alloc _ _ _ (C.n.lt q hq).2
  have co := owns_below (W' := W4.alloc o) C.o fun q hq => Below.heap_alloc _ _ _ (C.o.lt q hq).2
  have l4 : Lone (W4.alloc o) (L ++ [(r', c)]) := by
    refine ⟨fun x hx => ?_, fun x hx => ?_⟩
    · rcases List.mem_append.1 hx with hx | hx
      · exact h4.lone.all x hx
      · simp at hx; subst hx; exact hr'.below (below_alloc _ _)
    · rcases List.mem_append.1 hx with hx | hx
      · exact h4.lone.rows x hx
      · simp at hx; subst hx; exact ⟨owns_mono cn fun _ _ => Nat.zero_le _, owns_mono co fun _ _ => Nat.zero_le _⟩
  have l5 : Lone W5 (L ++ [(r', c)]) := l4.grown h4.own (by decide) G
  have htr : W5.heap[tr]? = some (.cells #[v] 69 (0, 0)) := by
    rw [G.block tr h4.lt fun e => h4.ne_tr h4.own (by decide) e.symm rfl]; exact h4.box
  have hne : ∀ {b e s n : Nat} {u : Value} {xs : List Value}, W5.ownsRow b e s u n xs → e ≠ 69 → ∀ q, u.ownBlock = some q → q ≠ tr := by
    rintro b e s n u xs hu he q hq rfl
    rcases hu.2 with ⟨rfl, _⟩ | ⟨g, cap, cur, rfl, _, hg, _⟩
    · cases hq
    · cases hq
      rw [htr] at hg
      cases hg
      exact he rfl
  have b5 : Below B w W5 := (b4.mono hB).grown G (Nat.le_trans hB b4.size) fun q hq => (h4.own.lt q hq).1
  refine ⟨⟨?_, h.base, ?_, ?_, fun x hx => ?_⟩, b5.setCell h.base _, fun b hb' hbt hbv => ?_⟩
  · rw [heap_setCell_same _ _ _ _ _ _ htr]; rfl
  · rw [List.length_append, rcs_append]
    exact owns_below (by simpa [rcs] using O) fun q hq => heap_setCell_other _ _ _ _ (hne O (by decide) q hq)
  · exact lone_of l5 fun x hx => ⟨fun q hq => heap_setCell_other _ _ _ _ (hne (l5.rows x hx).2 (by decide) q hq), fun q hq => heap_setCell_other _ _ _ _ (hne (l5.rows x hx).1 (by decide) q hq)⟩
  · rcases List.mem_append.1 hx with hx | hx
    · exact ⟨fun q hq => Or.inl ((h.fa x hx).1 q hq), fun q hq => Or.inl ((h.fa x hx).2 q hq)⟩
    · simp at hx; subst hx
      exact ⟨fun q hq => Or.inr (Nat.le_trans hb.size (C.o.lt q hq).1), fun q hq => Or.inr (Nat.le_trans hb.size (C.n.lt q hq).1)⟩
  · rw [heap_setCell_other _ _ _ _ hbt, G.block b (Nat.lt_of_lt_of_le hb' b4.size) fun e => hbv e.symm, b4.block b hb']

theorem Trk.cell {B : Nat} {F : Nat → Prop} {tr : Nat} {v : Value} {L : List PC} {W : World} (h : Trk B F tr v L W) : W.cell? ⟨tr, 0, none⟩ = some v ∧ W.frozen? ⟨tr, 0, none⟩ = false ∧ tr < W.heap.size :=
  ⟨cell_of_row _ _ _ _ _ _ h.box, frozen_of_row _ _ _ _ _ h.box, (Array.getElem?_eq_some_iff.1 h.box).1⟩

set_option maxRecDepth 100000 in
theorem new_walk (w : World) : Calls Try.prog 21 #[] w fun e w' => e = .returned (.pointer (some ⟨w.heap.size, 0, none⟩)) ∧ w' = w.alloc (.cells #[.slice none 0 0] 69) := by
  go_enter Try.func21, Try.ntmps21
  go_wp2
  go_ret
  exact ⟨rfl, rfl⟩

theorem trk_new {w W : World} (h : Below w.heap.size w W) (F : Nat → Prop) : Trk w.heap.size F W.heap.size (.slice none 0 0) [] (W.alloc (.cells #[.slice none 0 0] 69)) :=
  ⟨go_heap_new _ _, h.size, World.ownsRow_nil _ _ _ _, ⟨fun _ hx => (by cases hx), fun _ hx => (by cases hx)⟩, fun _ hx => (by cases hx)⟩

set_option maxRecDepth 100000 in
theorem mark_nil (w : World) : Calls Try.prog 25 #[.pointer none] w fun e w' => e = .returned (.int .i64 0) ∧ w' = w := by
  go_enter Try.func25, Try.ntmps25
  go_wp2
  go_ret
  exact ⟨rfl, rfl⟩

set_option maxRecDepth 100000 in
theorem note_nil (r : RC) (w : World) : Calls Try.prog 22 #[.pointer none, rcV r] w fun e w' => e = .returned (.tuple #[]) ∧ Below w.heap.size w w' := by
  unfold rcV
  go_enter Try.func22, Try.ntmps22
  go_wp2
  go_end0
  exact ⟨rfl, by repeat (first | exact Below.refl _ _ | refine Below.drew ?_ | refine Below.alloc ?_ (by simp) _)⟩

set_option maxRecDepth 100000 in
theorem back_nil (m : Int) (w : World) : Calls Try.prog 23 #[.pointer none, .int .i64 m] w fun e w' => e = .returned (.tuple #[]) ∧ w' = w := by
  go_enter Try.func23, Try.ntmps23
  go_wp2
  (try simp only [Exit.inBlock, Exit.then])
  refine bodyPost_ret (results_none rfl _ _ _) rfl ?_
  exact ⟨rfl, rfl⟩

set_option maxRecDepth 100000 in
theorem since_nil (m : Int) (w : World) : Calls Try.prog 24 #[.pointer none, .int .i64 m] w fun e w' => e = .returned (.slice none 0 0) ∧ w' = w := by
  go_enter Try.func24, Try.ntmps24
  go_wp2
  go_ret
  exact ⟨rfl, rfl⟩

set_option maxRecDepth 100000 in
theorem mark_walk {tr : Nat} {a : Option Addr} {n c : Nat} {w : World} (h : w.cell? ⟨tr, 0, none⟩ = some (.slice a n c)) : Calls Try.prog 25 #[.pointer (some ⟨tr, 0, none⟩)] w fun e w' => e = .returned (.int .i64 (n : Int)) ∧ w' = w := by
  go_enter Try.func25, Try.ntmps25
  go_wp2
  go_ret
  exact ⟨rfl, rfl⟩

/-- A mark, or what is nearest to it. -/
def nearN (m : Int) (n : Nat) : Nat := min m.toNat n

theorem near_eq (m : Int) (n : Nat) : min (max m 0) (n : Int) = (nearN m n : Int) := by unfold nearN; omega

set_option maxRecDepth 100000 in
theorem within_walk {tr : Nat} {a : Option Addr} {n c : Nat} {m : Int} {w : World} (h : w.cell? ⟨tr, 0, none⟩ = some (.slice a n c)) : Calls Try.prog 33 #[.pointer (some ⟨tr, 0, none⟩), .int .i64 m] w fun e w' => e = .returned (.int .i64 (nearN m n : Int)) ∧ w' = w := by
  have HE := near_eq m n
  go_enter Try.func33, Try.ntmps33
  go_wp2_with fail
  refine (mark_walk h).mono ?_
  rintro e w1 ⟨rfl, rfl⟩
  go_wp2
  go_ret
  exact ⟨rfl, rfl⟩
end Go.Proofs.Ytmcbpopeinabcaa
