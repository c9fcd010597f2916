/-
  An arena of the call's own (Has), what each call makes of it; the document's example (awake).
-/
import Derived.Test.YtjdbjnkmlajdoaaGreatArE
namespace Go.Proofs.YtjdbjnkmlajdoaaGreat.L4
open Go.RowKit

/-- The arena a at p, all of whose blocks are newer than w0; nothing older has turned. -/
def Has (w0 : World) (p : Nat) (a : Abs) (w : World) : Prop := ∃ s, s.p = p ∧ ArP s w ∧ s.abs = a ∧ a.Ok ∧ Below w0.heap.size w0 w ∧ ∀ k, s.own k → w0.heap.size ≤ k

theorem Has.ok {w0 w : World} {p : Nat} {a : Abs} (h : Has w0 p a w) : a.Ok := by obtain ⟨_, _, _, _, h, _⟩ := h; exact h
theorem Has.B {w0 w : World} {p : Nat} {a : Abs} (h : Has w0 p a w) : Below w0.heap.size w0 w := by obtain ⟨_, _, _, _, _, h, _⟩ := h; exact h

theorem Has.below {w0 w w' : World} {p : Nat} {a : Abs} (h : Has w0 p a w) (hb : Below w.heap.size w w') : Has w0 p a w' := by
  obtain ⟨s, h1, h2, h3, h4, h5, h6⟩ := h
  exact ⟨s, h1, arSt.below h2 hb, h3, h4, below_on h5 hb, h6⟩

theorem Has.goes {w0 w w' : World} {s : Ar} {a : Abs} (hb : Below w0.heap.size w0 w) (hn : ∀ k, s.own k → w0.heap.size ≤ k) (hg : Goes s w a w') (ho : a.Ok) : Has w0 s.p a w' := by
  obtain ⟨s', h1, h2, h3, h4⟩ := hg
  obtain ⟨h5, h6⟩ := Moves.fresh hb h4 hn
  exact ⟨s', h2, h1, h3, ho, h5, h6⟩

theorem has_new (q : Nat) (hq : q ≤ 4096) (w : World) : Calls Tryz.prog 12 #[.int .i64 q] w fun e w' => ∃ p, e = .returned (.tuple #[arV p, .int .i64 0]) ∧ Has w p ⟨[], [], q⟩ w' :=
  (new_ok q hq w).mono fun _ _ ⟨s, he, h1, h2, h3, h4⟩ => ⟨s.p, he, s, rfl, h1, h2, abs_new q hq, h3, h4⟩

theorem has_alloc {w0 w : World} {p : Nat} {a : Abs} (h : Has w0 p a w) (hl : 0 < a.left) : Calls Tryz.prog 75 #[arV p] w fun e w' => e = .returned (.tuple #[nv a.next, .int .i64 0]) ∧ Has w0 p a.alloc w' := by
  obtain ⟨s, rfl, h2, rfl, h4, h5, h6⟩ := h
  exact (alloc_ok h2 h4 hl).mono fun _ _ ⟨he, hg⟩ => ⟨he, Has.goes h5 h6 hg (h4.alloc hl).1⟩

theorem has_full {w0 w : World} {p : Nat} {a : Abs} (h : Has w0 p a w) (hl : a.left = 0) : Calls Tryz.prog 75 #[arV p] w fun e w' => e = .returned (.tuple #[.int .i64 0, .int .i64 9]) ∧ Has w0 p a w' := by
  have h' := h
  obtain ⟨s, rfl, h2, rfl, h4, h5, h6⟩ := h
  exact (alloc_full h2 h4 hl).mono fun _ _ ⟨he, hb⟩ => ⟨he, h'.below hb⟩

theorem small_of {s : Ar} (h : s.abs.Ok) : s.pg.length ≤ 4096 := by simpa [Ar.abs] using h.small

theorem has_free {w0 w : World} {p : Nat} {a : Abs} (h : Has w0 p a w) {n : Int} {c : List UInt8} (hn : a.at n = some c) : Calls Tryz.prog 66 #[arV p, .int .i64 n] w fun e w' => e = .returned (.int .i64 0) ∧ Has w0 p (a.free n.toNat) w' := by
  obtain ⟨s, rfl, h2, rfl, h4, h5, h6⟩ := h
  exact (free_ok h2 h4 hn).mono fun _ _ ⟨he, hg⟩ => ⟨he, Has.goes h5 h6 hg (h4.free hn)⟩

theorem has_free_no {w0 w : World} {p : Nat} {a : Abs} (h : Has w0 p a w) {n : Int} (hn : a.at n = none) : Calls Tryz.prog 66 #[arV p, .int .i64 n] w fun e w' => e = .returned (.int .i64 2) ∧ Has w0 p a w' := by
  have h' := h
  obtain ⟨s, rfl, h2, rfl, h4, h5, h6⟩ := h
  exact (free_no h2 (small_of h4) hn).mono fun _ _ ⟨he, hb⟩ => ⟨he, by rw [hb]; exact h'⟩

theorem has_load {w0 w : World} {p : Nat} {a : Abs} (h : Has w0 p a w) {n : Int} {c : List UInt8} (hn : a.at n = some c) : Calls Tryz.prog 56 #[arV p, .int .i64 n] w fun e w' => ∃ v, e = .returned (.tuple #[v, .int .i64 0]) ∧ BS w' w.heap.size v c ∧ Has w0 p a w' ∧ Below w.heap.size w w' := by
  have h' := h
  obtain ⟨s, rfl, h2, rfl, h4, h5, h6⟩ := h
  exact (load_ok h2 h4 hn).mono fun _ _ ⟨v, he, hv, hb⟩ => ⟨v, he, hv, h'.below hb, hb⟩

theorem has_load_no {w0 w : World} {p : Nat} {a : Abs} (h : Has w0 p a w) {n : Int} (hn : a.at n = none) : Calls Tryz.prog 56 #[arV p, .int .i64 n] w fun e w' => e = .returned (.tuple #[.slice none 0 0, .int .i64 2]) ∧ Has w0 p a w' := by
  have h' := h
  obtain ⟨s, rfl, h2, rfl, h4, h5, h6⟩ := h
  exact (load_no h2 (small_of h4) hn).mono fun _ _ ⟨he, hb⟩ => ⟨he, by rw [hb]; exact h'⟩

theorem has_store {w0 w : World} {p : Nat} {a : Abs} (h : Has w0 p a w) {n : Int} {c : List UInt8} (hn : a.at n = some c) {v : Value} {b : Nat} {d : List UInt8} (hv : BS w b v d) (hd : d.length = 1024) : Calls Tryz.prog 96 #[arV p, .int .i64 n, v] w fun e w' => e = .returned (.int .i64 0) ∧ Has w0 p (a.lay n.toNat (some d)) w' := by
  obtain ⟨s, rfl, h2, rfl, h4, h5, h6⟩ := h
  exact (store_ok h2 h4 hn hv hd).mono fun _ _ ⟨he, hg⟩ => ⟨he, Has.goes h5 h6 hg (h4.lay hn hd)⟩

theorem has_store_no {w0 w : World} {p : Nat} {a : Abs} (h : Has w0 p a w) {n : Int} (hn : a.at n = none) (v : Value) : Calls Tryz.prog 96 #[arV p, .int .i64 n, v] w fun e w' => e = .returned (.int .i64 2) ∧ Has w0 p a w' := by
  have h' := h
  obtain ⟨s, rfl, h2, rfl, h4, h5, h6⟩ := h
  exact (store_no h2 (small_of h4) hn v).mono fun _ _ ⟨he, hb⟩ => ⟨he, by rw [hb]; exact h'⟩

theorem has_used {w0 w : World} {p : Nat} {a : Abs} (h : Has w0 p a w) : Calls Tryz.prog 22 #[arV p] w fun e w' => e = .returned (nv a.used) ∧ Has w0 p a w' ∧ Below w.heap.size w w' := by
  have h' := h
  obtain ⟨s, rfl, h2, rfl, h4, h5, h6⟩ := h
  exact (used_walk h2 h4).mono fun _ _ ⟨he, hb⟩ => ⟨he, h'.below hb, hb⟩

theorem has_left {w0 w : World} {p : Nat} {a : Abs} (h : Has w0 p a w) : Calls Tryz.prog 47 #[arV p] w fun e w' => e = .returned (nv a.left) ∧ Has w0 p a w' ∧ Below w.heap.size w w' := by
  have h' := h
  obtain ⟨s, rfl, h2, rfl, h4, h5, h6⟩ := h
  exact (left_walk h2 h4).mono fun _ _ ⟨he, hb⟩ => ⟨he, h'.below hb, hb⟩

theorem has_pages {w0 w : World} {p : Nat} {a : Abs} (h : Has w0 p a w) : Calls Tryz.prog 30 #[arV p] w fun e w' => ∃ v, e = .returned v ∧ IS w.heap.size w' v a.pages ∧ Has w0 p a w' ∧ Below w.heap.size w w' := by
  have h' := h
  obtain ⟨s, rfl, h2, rfl, h4, h5, h6⟩ := h
  exact (pages_walk h2 h4).mono fun _ _ ⟨v, he, hi, hb⟩ => ⟨v, he, hi, h'.below hb, hb⟩

/-- Bytes that lie apart stay as they are. -/
def Bk (W W' : World) : Prop := ∀ (k : Nat) (cs : Array Value), W.heap[k]? = some (Obj.cells cs 5 (0, 0)) → W'.heap[k]? = W.heap[k]?

theorem Goes.bk {s : Ar} {w w' : World} {a : Abs} (h : ArP s w) (hg : Goes s w a w') : Bk w w' := by
  obtain ⟨s', _, _, _, hm⟩ := hg
  intro k cs hk
  refine hm.only.block k (Array.getElem?_eq_some_iff.1 hk).1 fun x => ?_
  obtain ⟨cur, t, h1, h2⟩ := h.tag x
  rw [hk] at h1
  simp only [Option.some.injEq, Obj.cells.injEq] at h1
  rcases h2 with h2 | h2 | h2 <;> (rw [h2] at h1; simp at h1)

theorem has_store_bk {w0 w : World} {p : Nat} {a : Abs} (h : Has w0 p a w) {n : Int} {c : List UInt8} (hn : a.at n = some c) {v : Value} {b : Nat} {d : List UInt8} (hv : BS w b v d) (hd : d.length = 1024) : Calls Tryz.prog 96 #[arV p, .int .i64 n, v] w fun e w' => e = .returned (.int .i64 0) ∧ Has w0 p (a.lay n.toNat (some d)) w' ∧ Bk w w' := by
  obtain ⟨s, rfl, h2, rfl, h4, h5, h6⟩ := h
  exact (store_ok h2 h4 hn hv hd).mono fun _ _ ⟨he, hg⟩ => ⟨he, Has.goes h5 h6 hg (h4.lay hn hd), hg.bk h2⟩

/-- A page's bytes lie in a block. -/
def HeldP (W : World) (b : Nat) (c : List UInt8) : Prop := W.heap[b]? = some (.cells (bcs c).toArray 131 (0, 0))

theorem HeldP.pk {W W' : World} {b : Nat} {c : List UInt8} (h : HeldP W b c) (hp : Pk W W') : HeldP W' b c := (hp b _ h).trans h

theorem has_load_blk {w0 w : World} {p : Nat} {a : Abs} (h : Has w0 p a w) {n : Int} {c : List UInt8} (hn : a.at n = some c) : Calls Tryz.prog 56 #[arV p, .int .i64 n] w fun e w' => e = .returned (.tuple #[.slice (some ⟨w.heap.size, 0, none⟩) 1024 1024, .int .i64 0]) ∧ HeldP w' w.heap.size c ∧ Has w0 p a w' ∧ Below w.heap.size w w' := by
  have h' := h
  obtain ⟨s, rfl, h2, rfl, h4, h5, h6⟩ := h
  exact (load_blk h2 h4 hn).mono fun _ _ ⟨he, hv, hb⟩ => ⟨he, hv, h'.below hb, hb⟩

theorem has_store_pk {w0 w : World} {p : Nat} {a : Abs} (h : Has w0 p a w) {n : Int} {c : List UInt8} (hn : a.at n = some c) {v : Value} {b : Nat} {d : List UInt8} (hv : BS w b v d) (hd : d.length = 1024) : Calls Tryz.prog 96 #[arV p, .int .i64 n, v] w fun e w' => e = .returned (.int .i64 0) ∧ Has w0 p (a.lay n.toNat (some d)) w' ∧ Pk w w' := by
  obtain ⟨s, rfl, h2, rfl, h4, h5, h6⟩ := h
  refine (store_ok h2 h4 hn hv hd).mono fun _ _ ⟨he, hg⟩ => ⟨he, Has.goes h5 h6 hg (h4.lay hn hd), ?_⟩
  obtain ⟨s', _, _, _, hm⟩ := hg
  exact arSt.pk h2 hm.only

/-- A store elsewhere. -/
theorem Has.poke {w0 w : World} {p : Nat} {a : Abs} (h : Has w0 p a w) {b : Nat} {cs : Array Value} (hb : w.heap[b]? = some (.cells cs 5 (0, 0))) (h0 : w0.heap.size ≤ b) (j : Nat) (u : Value) : Has w0 p a (w.setCell ⟨b, j, none⟩ u) := by
  obtain ⟨s, h1, h2, h3, h4, h5, h6⟩ := h
  have hne : ∀ (k : Nat) (cur : Array Value) (t : TypeId), w.heap[k]? = some (Obj.cells cur t (0, 0)) → t ≠ 5 → (w.setCell ⟨b, j, none⟩ u).heap[k]? = w.heap[k]? := fun k cur t hk ht => heap_setCell_other _ _ _ _ fun e => by
    rw [show k = b from e, hb] at hk
    simp only [Option.some.injEq, Obj.cells.injEq] at hk
    exact ht hk.2.1.symm
  refine ⟨s, h1, arSt.keep s w _ h2 (fun k hk => ?_) (fun k cs hk => hne k _ _ hk (by decide)), h3, h4, h5.setCell h0 u, h6⟩
  obtain ⟨cur, t, h7, h8⟩ := h2.tag hk
  refine hne k _ _ h7 ?_
  rcases h8 with h8 | h8 | h8 <;> (rw [h8]; decide)

/-- A store into what Load has answered. -/
theorem has_load_poke {w0 w : World} {p : Nat} {a : Abs} (h : Has w0 p a w) {n : Int} {c : List UInt8} (hn : a.at n = some c) : Calls Tryz.prog 56 #[arV p, .int .i64 n] w fun e w' => ∃ v, e = .returned (.tuple #[v, .int .i64 0]) ∧ BS w' w.heap.size v c ∧ (∀ j u, Has w0 p a (w'.setCell ⟨w.heap.size, j, none⟩ u)) := by
  obtain ⟨s, rfl, h2, rfl, h4, h5, h6⟩ := h
  refine (load_ok h2 h4 hn).mono fun _ w' ⟨v, he, hv, hb⟩ => ⟨v, he, hv, fun j u => ?_⟩
  have hbb : Below w.heap.size w (w'.setCell ⟨w.heap.size, j, none⟩ u) := hb.setCell (Nat.le_refl _) u
  exact ⟨s, rfl, arSt.below h2 hbb, rfl, h4, below_on h5 hbb, h6⟩

def aw0 : Abs := ⟨[], [], 2⟩
def aw1 : Abs := ⟨[some zeroP], [], 2⟩
def aw2 : Abs := ⟨[some zeroP, some zeroP], [], 2⟩
def aw3 : Abs := ⟨[none, some zeroP], [1], 2⟩

end Go.Proofs.YtjdbjnkmlajdoaaGreat.L4
