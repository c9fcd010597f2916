/-
  Delta: Back of a tracker.
-/
import Derived.Laws.IdiomCopy
import Derived.Test.YtmcbpopeinabcaaDlTl
namespace Go.Proofs.Ytmcbpopeinabcaa
open Go.RowKit

def zeroC : Value := .agg #[.string ⟨#[]⟩, .int .i64 0, .slice none 0 0, .slice none 0 0]

theorem zeros_len (n : Nat) : (Builtin.zeroCells zeroC.cells n).toList.length = n * 4 := by
  simp [Builtin.zeroCells, zeroC, Value.cells]

theorem zeros_one (n : Nat) : ∀ v ∈ (Builtin.zeroCells zeroC.cells n).toList, v.oneCell' = true := by
  intro v hv
  simp only [Builtin.zeroCells, Array.toList_map, List.mem_map] at hv
  obtain ⟨i, _, rfl⟩ := hv
  have e : zeroC.cells = #[.string ⟨#[]⟩, .int .i64 0, .slice none 0 0, .slice none 0 0] := rfl
  rw [e]
  have h4 : i % 4 = 0 ∨ i % 4 = 1 ∨ i % 4 = 2 ∨ i % 4 = 3 := by omega
  show (#[Value.string ⟨#[]⟩, .int .i64 0, .slice none 0 0, .slice none 0 0][i % 4]!).oneCell' = true
  rcases h4 with h | h | h | h <;> rw [h] <;> rfl

theorem run_clear4 (w : World) (ty : TypeId) (b o n c : Nat) (hn : 0 < n) (hc : ∀ j, j < n * 4 → (w.cell? ⟨b, o + j, none⟩).isSome = true) (hf : ∀ j, j < n * 4 → w.frozen? ⟨b, o + j, none⟩ = false) :
    (Builtin.clear_ #[22] ty #[.slice (some ⟨b, o, none⟩) n c]).run Try.prog w = .ok (.tuple #[]) (w.setCells b o (Builtin.zeroCells zeroC.cells n).toList) := by
  have hst := run_storeCells_cells (P := Try.prog) b o (Builtin.zeroCells zeroC.cells n).toList 0 w (by rw [zeros_len]; simpa using hc) (by rw [zeros_len]; simpa using hf) (zeros_one n)
  simp only [Nat.add_zero] at hst
  obtain ⟨m, rfl⟩ : ∃ m, n = m + 1 := ⟨n - 1, by omega⟩
  unfold zeroC at hst ⊢
  simp [Builtin.clear_, run_underlying Try.underlying22, hst]

theorem run_clear0 (w : World) (ty : TypeId) (a : Option Addr) (c : Nat) : (Builtin.clear_ #[22] ty #[.slice a 0 c]).run Try.prog w = .ok (.tuple #[]) w := by
  cases a <;> simp [Builtin.clear_, run_underlying Try.underlying22]

theorem heap_setCells_at {b e : Nat} : ∀ (vs : List Value) (o : Nat) (w : World) (cur : Array Value), w.heap[b]? = some (.cells cur e (0, 0)) → ∃ cur', (w.setCells b o vs).heap[b]? = some (.cells cur' e (0, 0)) ∧ cur'.size = cur.size ∧ cur'.toList.take o = cur.toList.take o
  | [], _, _, cur, h => ⟨cur, h, rfl, rfl⟩
  | v :: r, o, w, cur, h => by
    have h1 := heap_setCell_same _ _ o _ _ v h
    obtain ⟨cur', g1, g2, g3⟩ := heap_setCells_at r (o + 1) (w.setCell ⟨b, o, none⟩ v) _ h1
    refine ⟨cur', g1, by rw [g2]; simp, ?_⟩
    have g4 := congrArg (List.take o) g3
    rw [List.take_take, List.take_take, Nat.min_eq_left (by omega)] at g4
    rw [g4]
    simp [List.take_set_of_le]

theorem heap_setCells_ne {b q : Nat} (hq : q ≠ b) : ∀ (vs : List Value) (o : Nat) (w : World), (w.setCells b o vs).heap[q]? = w.heap[q]?
  | [], _, _ => rfl
  | v :: r, o, w => by
    show ((w.setCell ⟨b, o, none⟩ v).setCells b (o + 1) r).heap[q]? = _
    rw [heap_setCells_ne hq r (o + 1), heap_setCell_other _ _ _ _ hq]

theorem below_cells {B b : Nat} {a : World} (hb : B ≤ b) : ∀ (vs : List Value) (o : Nat) (w : World), Below B a w → Below B a (w.setCells b o vs)
  | [], _, _, h => h
  | v :: r, o, _, h => below_cells hb r (o + 1) _ (h.setCell hb v)

/-- A tracker that has forgotten: W1 is behind the clearing, which turns no block but the row's. -/
theorem back_end {B : Nat} {F : Nat → Prop} {tr : Nat} {a : Option Addr} {n c k : Nat} {L : List PC} {w W1 : World} (h : Trk B F tr (.slice a n c) L w) (hn : L.length = n) (hb : Below B w W1) (hne : ∀ q, Value.ownBlock (.slice a n c) ≠ some q → W1.heap[q]? = w.heap[q]?)
    (ho : W1.ownsRow B 27 4 (.slice a k c) k (rcs (L.take k))) (hk : k ≤ n) :
    Trk B F tr (.slice a k c) (L.take k) (W1.setCell ⟨tr, 0, none⟩ (.slice a k c)) ∧ Below B w (W1.setCell ⟨tr, 0, none⟩ (.slice a k c)) ∧ (∀ b, b < w.heap.size → b ≠ tr → Value.ownBlock (.slice a n c) ≠ some b → (W1.setCell ⟨tr, 0, none⟩ (.slice a k c)).heap[b]? = w.heap[b]?) ∧ W1.cell? ⟨tr, 0, none⟩ = some (.slice a n c) ∧ W1.frozen? ⟨tr, 0, none⟩ = false := by
  have htv : Value.ownBlock (.slice a n c) ≠ some tr := fun e => h.ne_tr h.own (by decide) e rfl
  have htr : W1.heap[tr]? = some (.cells #[.slice a n c] 69 (0, 0)) := by rw [hne tr htv]; exact h.box
  have hkt : (L.take k).length = k := by rw [List.length_take]; omega
  refine ⟨⟨?_, h.base, ?_, ?_, fun x hx => h.fa x (List.mem_of_mem_take hx)⟩, hb.setCell h.base _, fun b _ hbt hbv => ?_, cell_of_row _ _ _ _ _ _ htr, frozen_of_row _ _ _ _ _ htr⟩
  · rw [heap_setCell_same _ _ _ _ _ _ htr]; rfl
  · rw [hkt]
    refine owns_below ho fun q hq => heap_setCell_other _ _ _ _ ?_
    rintro rfl
    exact htv (by cases a <;> exact hq)
  · have hl : Lone w (L.take k) := ⟨fun x hx => h.lone.all x (List.mem_of_mem_take hx), fun x hx => h.lone.rows x (List.mem_of_mem_take hx)⟩
    refine lone_of hl fun x hx => ⟨fun q hq => ?_, fun q hq => ?_⟩
    · rw [heap_setCell_other _ _ _ _ (h.ne_tr (hl.rows x hx).2 (by decide) hq), hne q (h.ne_v (hl.rows x hx).2 (by decide) hq)]
    · rw [heap_setCell_other _ _ _ _ (h.ne_tr (hl.rows x hx).1 (by decide) hq), hne q (h.ne_v (hl.rows x hx).1 (by decide) hq)]
  · rw [heap_setCell_other _ _ _ _ hbt, hne b hbv]

theorem rcs_splitT (N : List PC) (p : Nat) : rcs (N.take p) = (rcs N).take (p * 4) ∧ True := by
  refine ⟨?_, trivial⟩
  induction N generalizing p with
  | nil => simp [rcs]
  | cons x N ih =>
    cases p with
    | zero => simp [rcs]
    | succ p =>
      have e' : ∀ M, rcs (x :: M) = .string x.1.t :: .int .i64 x.1.id :: .slice x.1.oa x.1.ol x.1.oc :: .slice x.1.na x.1.nl x.1.nc :: rcs M := fun _ => rfl
      rw [List.take_succ_cons, e', e', ih p, show (p + 1) * 4 = p * 4 + 1 + 1 + 1 + 1 by omega]
      rfl

theorem own_take {W : World} {B e : Nat} {a : Option Addr} {n c k : Nat} {L : List PC} (h : W.ownsRow B e 4 (.slice a n c) n (rcs L)) (hk : k ≤ n) (ha : a = none → k = n) : W.ownsRow B e 4 (.slice a k c) k (rcs (L.take k)) := by
  rcases h with ⟨h1, h2⟩
  rw [(rcs_splitT L k).1]
  refine ⟨by rw [List.length_take, h1]; omega, ?_⟩
  rcases h2 with ⟨e1, e2⟩ | ⟨g, cap, cur, e1, g1, g2, g3, g4, g5, g6⟩
  · cases e1
    have := ha rfl
    exact Or.inl ⟨by rw [show k = 0 by omega], by omega⟩
  · cases e1
    exact Or.inr ⟨g, _, cur, rfl, g1, g2, by omega, g4, g5, by rw [← g6, List.take_take, Nat.min_eq_left (by omega)]⟩

theorem back_clear {B : Nat} {F : Nat → Prop} {tr : Nat} {a : Option Addr} {n c k : Nat} {L : List PC} {w : World} (h : Trk B F tr (.slice a n c) L w) (own : w.ownsRow B 27 4 (.slice a n c) n (rcs L)) (hn : L.length = n) (hk : k < n) :
    ∃ g, a = some ⟨g, 0, none⟩ ∧ (∀ ty, (Builtin.clear_ #[22] ty #[.slice (some ⟨g, k * 4, none⟩) (n - k) (c - k)]).run Try.prog w = .ok (.tuple #[]) (w.setCells g (k * 4) (Builtin.zeroCells zeroC.cells (n - k)).toList)) ∧
      (Trk B F tr (.slice a k c) (L.take k) ((w.setCells g (k * 4) (Builtin.zeroCells zeroC.cells (n - k)).toList).setCell ⟨tr, 0, none⟩ (.slice a k c)) ∧ Below B w ((w.setCells g (k * 4) (Builtin.zeroCells zeroC.cells (n - k)).toList).setCell ⟨tr, 0, none⟩ (.slice a k c)) ∧ (∀ b, b < w.heap.size → b ≠ tr → Value.ownBlock (.slice a n c) ≠ some b → ((w.setCells g (k * 4) (Builtin.zeroCells zeroC.cells (n - k)).toList).setCell ⟨tr, 0, none⟩ (.slice a k c)).heap[b]? = w.heap[b]?) ∧ (w.setCells g (k * 4) (Builtin.zeroCells zeroC.cells (n - k)).toList).cell? ⟨tr, 0, none⟩ = some (.slice a n c) ∧ (w.setCells g (k * 4) (Builtin.zeroCells zeroC.cells (n - k)).toList).frozen? ⟨tr, 0, none⟩ = false) := by
  rcases own.2 with ⟨e1, e2⟩ | ⟨g, cap, cur, e1, g1, g2, g3, g4, g5, g6⟩
  · omega
  · cases e1
    refine ⟨g, rfl, fun ty => run_clear4 w ty g (k * 4) (n - k) (c - k) (by omega) (fun j hj => ?_) (fun j hj => ?_), ?_⟩
    · rw [cell_of_row _ _ _ _ _ _ g2, Array.getElem?_eq_getElem (by omega)]; rfl
    · exact frozen_of_row _ _ _ _ _ g2
    · obtain ⟨cur', k1, k2, k3⟩ := heap_setCells_at (Builtin.zeroCells zeroC.cells (n - k)).toList (k * 4) w cur g2
      refine back_end h hn (below_cells g1 _ _ _ (Below.refl _ _)) (fun q hq => heap_setCells_ne (fun e => hq (by rw [e]; rfl)) _ _ _) ?_ (by omega)
      rw [(rcs_splitT L k).1]
      refine ⟨by rw [List.length_take, own.1]; omega, Or.inr ⟨g, _, cur', rfl, g1, k1, by omega, g4, by omega, ?_⟩⟩
      rw [k3, ← g6, List.take_take, Nat.min_eq_left (by omega)]

set_option maxRecDepth 100000 in
set_option maxHeartbeats 1000000 in
theorem back_walk {B : Nat} {F : Nat → Prop} {tr : Nat} {v : Value} {L : List PC} {m : Int} {w : World} (h : Trk B F tr v L w) :
    Calls Try.prog 23 #[.pointer (some ⟨tr, 0, none⟩), .int .i64 m] w fun e w' => e = .returned (.tuple #[]) ∧ ∃ v', Trk B F tr v' (L.take (nearN m L.length)) w' ∧ Below B w w' ∧ ∀ b, b < w.heap.size → b ≠ tr → v.ownBlock ≠ some b → w'.heap[b]? = w.heap[b]? := by
  obtain ⟨x0, y0, xl⟩ := h.cell
  obtain ⟨a, c, rfl⟩ := owns_slice h.own
  have hkn : nearN m L.length ≤ L.length := Nat.min_le_right _ _
  have HW := dhid (within_walk (m := m) x0)
  have hnc := own_cap h.own
  generalize hk : nearN m L.length = k at *
  obtain ⟨n, HN⟩ : ∃ m, Hid (L.length = m) := ⟨_, rfl⟩
  rw [HN.out] at h x0 hkn hnc ⊢
  have own : w.ownsRow B 27 4 (.slice a n c) n (rcs L) := by have g := h.own; rwa [HN.out] at g
  clear hk
  by_cases hkn' : k = n
  · subst hkn'
    have HE := dhid (back_end (k := k) h HN.out (Below.refl _ _) (fun _ _ => rfl) (own_take own (Nat.le_refl _) fun _ => rfl) (Nat.le_refl _))
    rcases part_cases own rfl hkn with ⟨rfl, h0, h1⟩ | ⟨g, rfl, h1⟩ | ⟨g, rfl, h1⟩
    · subst h0
      subst h1
      have hcl := fun ty => run_clear0 w ty none 0
      clear h own
      go_enter Try.func23, Try.ntmps23
      go_wp2_with fail
      refine HW.out.mono ?_
      rintro e w1 ⟨rfl, rfl⟩
      go_wp2
      go_end0
      exact ⟨rfl, _, HE.out.1, HE.out.2.1, HE.out.2.2.1⟩
    · subst h1
      have hcl := fun ty => run_clear0 w ty (some ⟨g, 0, none⟩) 0
      clear h own
      go_enter Try.func23, Try.ntmps23
      go_wp2_with fail
      refine HW.out.mono ?_
      rintro e w1 ⟨rfl, rfl⟩
      go_wp2
      go_end0
      exact ⟨rfl, _, HE.out.1, HE.out.2.1, HE.out.2.2.1⟩
    · have i1 : (k : Int) ≤ (c : Int) := by omega
      have i4 : ¬ c - k = 0 := by omega
      have i5 : ¬ c = k := h1
      have hcl := fun ty => run_clear0 w ty (some ⟨g, k * 4, none⟩) (c - k)
      clear h own
      go_enter Try.func23, Try.ntmps23
      go_wp2_with fail
      refine HW.out.mono ?_
      rintro e w1 ⟨rfl, rfl⟩
      go_wp2
      go_end0
      exact ⟨rfl, _, HE.out.1, HE.out.2.1, HE.out.2.2.1⟩
  · obtain ⟨g, rfl, hcl, HE⟩ := back_clear h own HN.out (show k < n by omega)
    have i1 : (k : Int) ≤ (c : Int) := by omega
    have i2 : (k : Int) ≤ (n : Int) := by omega
    have i3 : (n : Int) ≤ (c : Int) := by omega
    have i4 : ¬ c - k = 0 := by omega
    have i5 : ¬ c = k := by omega
    have HEH := dhid HE
    obtain ⟨_, _, _, x1, y1⟩ := HE
    have xl1 : tr < (w.setCells g (k * 4) (Builtin.zeroCells zeroC.cells (n - k)).toList).heap.size := World.block_lt_of_cell? _ _ x1
    clear h own
    generalize w.setCells g (k * 4) (Builtin.zeroCells zeroC.cells (n - k)).toList = W1 at *
    go_enter Try.func23, Try.ntmps23
    go_wp2_with fail
    refine HW.out.mono ?_
    rintro e w1 ⟨rfl, rfl⟩
    go_wp2
    go_end0
    exact ⟨rfl, _, HEH.out.1, HEH.out.2.1, HEH.out.2.2.1⟩
end Go.Proofs.Ytmcbpopeinabcaa
