/-
  Rows of values of the call's own: several cells stored, a new row; of no program.
-/
import Derived.Laws.AppendOwn
import Derived.Laws.IdiomCopy
import Derived.Below
import Derived.Test.YtjdbjnkmlajdoaaGreatOnly
namespace Go.Proofs.YtjdbjnkmlajdoaaGreat
open Go.RowKit

/-- Values laid over others. -/
def ov (L : List Value) (o : Nat) (t : List Value) : List Value := L.take o ++ t ++ L.drop (o + t.length)

theorem ov_nil (L : List Value) (o : Nat) : ov L o [] = L := by simp [ov]

theorem ov_length (L : List Value) (o : Nat) (t : List Value) (h : o + t.length ≤ L.length) : (ov L o t).length = L.length := by
  unfold ov; simp; omega

theorem ov_cons (L : List Value) (o : Nat) (x : Value) (t : List Value) (h : o + (t.length + 1) ≤ L.length) : ov (L.set o x) (o + 1) t = ov L o (x :: t) := by
  unfold ov
  have e1 : (L.set o x).take (o + 1) = L.take o ++ [x] := by
    rw [List.take_succ_eq_append_getElem (by simp; omega), List.take_set_of_le (Nat.le_refl _)]
    simp
  have e2 : (L.set o x).drop (o + 1 + t.length) = L.drop (o + (x :: t).length) := by
    rw [List.drop_set_of_lt (by omega)]
    congr 1
    simp; omega
  rw [e1, e2]
  simp

theorem setCells_blk {b : Nat} {tag : TypeId} : ∀ (t : List Value) (o : Nat) (W : World) (L : List Value), W.heap[b]? = some (.cells L.toArray tag (0, 0)) → o + t.length ≤ L.length → (W.setCells b o t).heap[b]? = some (.cells (ov L o t).toArray tag (0, 0))
  | [], o, W, L, h, _ => by rw [ov_nil]; exact h
  | x :: t, o, W, L, h, hl => by
    rw [← ov_cons L o x t (by simpa using hl)]
    refine setCells_blk t (o + 1) (W.setCell ⟨b, o, none⟩ x) (L.set o x) ?_ (by simp at hl ⊢; omega)
    rw [Go.heap_setCell_same W b o _ _ _ h, List.setIfInBounds_toArray]

theorem setCells_grown (b : Nat) : ∀ (t : List Value) (o : Nat) (W W0 : World), W0.grownBy W (some b) → W0.grownBy (W.setCells b o t) (some b)
  | [], _, _, _, h => h
  | x :: t, o, W, W0, h => setCells_grown b t (o + 1) (W.setCell ⟨b, o, none⟩ x) W0 ⟨h.os, h.tape, h.output, by simpa [World.setCell] using h.size, fun k hk hne => by
      rw [heap_setCell_other _ _ _ _ (show k ≠ b from fun e => hne (by rw [e]))]
      exact h.block k hk hne⟩

theorem grown_refl (W : World) (r : Option Nat) : W.grownBy W r := ⟨rfl, rfl, rfl, Nat.le_refl _, fun _ _ _ => rfl⟩
theorem grown_drew {W W' : World} {r : Option Nat} (h : W.grownBy W' r) : W.grownBy W'.drew r := ⟨h.os, h.tape, h.output, h.size, h.block⟩

theorem grown_alloc {W W' : World} {r : Option Nat} (h : W.grownBy W' r) (o : Obj) : W.grownBy (W'.alloc o) r := by
  have g := World.grownBy_alloc W' o r
  exact ⟨g.os.trans h.os, g.tape.trans h.tape, g.output.trans h.output, Nat.le_trans h.size g.size, fun k hk hne => (g.block k (Nat.lt_of_lt_of_le hk h.size) hne).trans (h.block k hk hne)⟩

/-- A new row, behind a draw. -/
theorem own_new (w : World) (base : Nat) (hbase : base ≤ w.heap.size) (e : TypeId) (z : Array Value) (hz : z.size = 1) (xs : List Value) (k cap : Nat) (hk : xs.length = k) (hc : k ≤ cap) (hm : cap ≤ maxLen) :
    (w.alloc (.cells (xs.toArray ++ Builtin.zeroCells z (cap - k)) e)).ownsRow base e 1 (.slice (some ⟨w.heap.size, 0, none⟩) k cap) k xs := by
  refine ⟨by omega, .inr ⟨w.heap.size, cap, _, rfl, hbase, heap_alloc_new w _, hc, hm, ?_, ?_⟩⟩
  · simp only [Array.size_append, List.size_toArray, size_zeroCells, hz, hk]
    omega
  · simp only [Array.toList_append, Nat.mul_one]
    rw [← hk]
    exact List.take_left

/-- A row whose block is known. -/
theorem own_row {W : World} {base g cap n : Nat} {e : TypeId} {L xs : List Value} (hb : base ≤ g) (h : W.heap[g]? = some (.cells L.toArray e (0, 0))) (hn : n ≤ cap) (hm : cap ≤ maxLen) (hL : L.length = cap) (hx : L.take n = xs) : W.ownsRow base e 1 (.slice (some ⟨g, 0, none⟩) n cap) n xs :=
  ⟨by rw [← hx, List.length_take]; omega, .inr ⟨g, cap, _, rfl, hb, h, hn, hm, by simp [hL], by simpa using hx⟩⟩
end Go.Proofs.YtjdbjnkmlajdoaaGreat
