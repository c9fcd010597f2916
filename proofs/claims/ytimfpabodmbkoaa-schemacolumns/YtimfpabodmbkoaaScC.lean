/-
  Columns and values in memory; fits, Fit and the document's Fit.
-/
import Derived.Test.YtimfpabodmbkoaaScA
import Derived.Test.YtimfpabodmbkoaaValueB
namespace Go.Proofs.Ytimfpabodmbkoaa
open Go.RowKit

theorem hid {p : Prop} (h : p) : Hid p := h

/-- A column. -/
structure Col where
  s : ByteArray
  t : Int
  nn : Bool
  uq : Bool

/-- A value. -/
structure Va where
  k : Int
  n : Int
  s : ByteArray

def colV (c : Col) : Value := .agg #[.string c.s, .int .i64 c.t, .bool c.nn, .bool c.uq]
def vaV (v : Va) : Value := .agg #[.int .i64 v.k, .int .i64 v.n, .string v.s]

/-- The columns of a slice whose first lies at a. -/
def SlC (W : World) (a : Option Addr) (l : List Col) : Prop := l = [] ∨ ∃ b o, a = some ⟨b, o, none⟩ ∧ b < W.heap.size ∧ ∀ j c, l[j]? = some c →
  W.cell? ⟨b, o + j * 4, none⟩ = some (.string c.s) ∧ W.cell? ⟨b, o + j * 4 + 1, none⟩ = some (.int .i64 c.t) ∧ W.cell? ⟨b, o + j * 4 + 2, none⟩ = some (.bool c.nn) ∧ W.cell? ⟨b, o + j * 4 + 3, none⟩ = some (.bool c.uq)

/-- The values of a slice whose first lies at a. -/
def SlV (W : World) (a : Option Addr) (l : List Va) : Prop := l = [] ∨ ∃ b o, a = some ⟨b, o, none⟩ ∧ b < W.heap.size ∧ ∀ j v, l[j]? = some v →
  W.cell? ⟨b, o + j * 3, none⟩ = some (.int .i64 v.k) ∧ W.cell? ⟨b, o + j * 3 + 1, none⟩ = some (.int .i64 v.n) ∧ W.cell? ⟨b, o + j * 3 + 2, none⟩ = some (.string v.s)

theorem SlC.below {W W' : World} {a : Option Addr} {l : List Col} {m : Nat} (h : SlC W a l) (hb : Below m W W') (hm : W.heap.size ≤ m) : SlC W' a l := by
  rcases h with h | ⟨b, o, e, hlt, hc⟩
  · exact Or.inl h
  · refine Or.inr ⟨b, o, e, ?_, fun j c hj => ?_⟩
    · have := hb.size; omega
    · obtain ⟨c0, c1, c2, c3⟩ := hc j c hj
      have e := fun i => hb.cell (p := ⟨b, i, none⟩) (show b < m by omega)
      simp only [e]
      exact ⟨c0, c1, c2, c3⟩

theorem SlV.below {W W' : World} {a : Option Addr} {l : List Va} {m : Nat} (h : SlV W a l) (hb : Below m W W') (hm : W.heap.size ≤ m) : SlV W' a l := by
  rcases h with h | ⟨b, o, e, hlt, hc⟩
  · exact Or.inl h
  · refine Or.inr ⟨b, o, e, ?_, fun j c hj => ?_⟩
    · have := hb.size; omega
    · obtain ⟨c0, c1, c2⟩ := hc j c hj
      have e := fun i => hb.cell (p := ⟨b, i, none⟩) (show b < m by omega)
      simp only [e]
      exact ⟨c0, c1, c2⟩

theorem SlC.take {W : World} {a : Option Addr} {l : List Col} (h : SlC W a l) (k : Nat) : SlC W a (l.take k) := by
  rcases h with rfl | ⟨b, o, e, hlt, hc⟩
  · exact Or.inl (by simp)
  · refine Or.inr ⟨b, o, e, hlt, fun j c hj => hc j c ?_⟩
    rw [List.getElem?_take] at hj
    split at hj
    · exact hj
    · cases hj

theorem SlC.at {W : World} {a : Option Addr} {l : List Col} (h : SlC W a l) {j : Nat} (hj : j < l.length) : ∃ b o, a = some ⟨b, o, none⟩ ∧ b < W.heap.size ∧
    W.cell? ⟨b, o + j * 4, none⟩ = some (.string l[j].s) ∧ W.cell? ⟨b, o + j * 4 + 1, none⟩ = some (.int .i64 l[j].t) ∧ W.cell? ⟨b, o + j * 4 + 2, none⟩ = some (.bool l[j].nn) ∧ W.cell? ⟨b, o + j * 4 + 3, none⟩ = some (.bool l[j].uq) := by
  rcases h with rfl | ⟨b, o, e, hlt, hc⟩
  · simp at hj
  · exact ⟨b, o, e, hlt, hc j _ (List.getElem?_eq_getElem hj)⟩

theorem SlV.at {W : World} {a : Option Addr} {l : List Va} (h : SlV W a l) {j : Nat} (hj : j < l.length) : ∃ b o, a = some ⟨b, o, none⟩ ∧ b < W.heap.size ∧
    W.cell? ⟨b, o + j * 3, none⟩ = some (.int .i64 l[j].k) ∧ W.cell? ⟨b, o + j * 3 + 1, none⟩ = some (.int .i64 l[j].n) ∧ W.cell? ⟨b, o + j * 3 + 2, none⟩ = some (.string l[j].s) := by
  rcases h with rfl | ⟨b, o, e, hlt, hc⟩
  · simp at hj
  · exact ⟨b, o, e, hlt, hc j _ (List.getElem?_eq_getElem hj)⟩

def fitE (c : Col) (v : Va) : Int := if rightB v.k v.n v.s = false then 15 else if v.k = 0 then (if c.nn then 5 else 0) else if v.k = c.t then 0 else 4

theorem fitE_15 {c : Col} {v : Va} (h : rightB v.k v.n v.s = false) : fitE c v = 15 := by simp [fitE, h]
theorem fitE_5 {c : Col} {v : Va} (h : rightB v.k v.n v.s = true) (h0 : v.k = 0) (hn : c.nn = true) : fitE c v = 5 := by unfold fitE; rw [if_neg (by simp [h]), if_pos h0, if_pos hn]
theorem fitE_0 {c : Col} {v : Va} (h : rightB v.k v.n v.s = true) (h0 : v.k = 0) (hn : c.nn = false) : fitE c v = 0 := by unfold fitE; rw [if_neg (by simp [h]), if_pos h0, if_neg (by simp [hn])]
theorem fitE_eq {c : Col} {v : Va} (h : rightB v.k v.n v.s = true) (h0 : ¬ v.k = 0) (ht : v.k = c.t) : fitE c v = 0 := by unfold fitE; rw [if_neg (by simp [h]), if_neg h0, if_pos ht]
theorem fitE_4 {c : Col} {v : Va} (h : rightB v.k v.n v.s = true) (h0 : ¬ v.k = 0) (ht : ¬ v.k = c.t) : fitE c v = 4 := by simp [fitE, h, h0, ht]

def fitL : List Col → List Va → Int
  | c :: cs, v :: vs => if fitE c v = 0 then fitL cs vs else fitE c v
  | _, _ => 0

theorem fitL_step {l : List Col} {r : List Va} {k : Nat} (h1 : k < l.length) (h2 : k < r.length) : fitL (l.drop k) (r.drop k) = if fitE l[k] r[k] = 0 then fitL (l.drop (k + 1)) (r.drop (k + 1)) else fitE l[k] r[k] := by
  rw [List.drop_eq_getElem_cons h1, List.drop_eq_getElem_cons h2]; rfl

theorem fitL_end {l : List Col} {r : List Va} {k : Nat} (h1 : l.length ≤ k) : fitL (l.drop k) (r.drop k) = 0 := by
  rw [List.drop_eq_nil_of_le h1]; rfl

def fitT (l : List Col) (r : List Va) : Int := if l.length = r.length then fitL l r else 15

theorem two_boxes {w w1 : World} {x0 x1 x2 x3 y0 y1 y2 : Value} {t u : TypeId} (hb : Below ((w.alloc (.cells #[x0, x1, x2, x3] t)).alloc (.cells #[y0, y1, y2] u)).heap.size ((w.alloc (.cells #[x0, x1, x2, x3] t)).alloc (.cells #[y0, y1, y2] u)) w1) :
    Below w.heap.size w w1 ∧ w.heap.size + 1 < w1.heap.size ∧ w1.cell? ⟨w.heap.size, 1, none⟩ = some x1 ∧ w1.cell? ⟨w.heap.size, 2, none⟩ = some x2 ∧ w1.cell? ⟨w.heap.size + 1, 0, none⟩ = some y0 := by
  have hs := hb.size
  have h0 : Below w.heap.size w ((w.alloc (.cells #[x0, x1, x2, x3] t)).alloc (.cells #[y0, y1, y2] u)) := (below_alloc _ _).alloc (by simp) _
  refine ⟨h0.trans (hb.mono (by simp; omega)), by simp at hs; omega, ?_, ?_, ?_⟩
  · rw [hb.cell (p := ⟨w.heap.size, 1, none⟩) (by simp; omega)]; simp [go_sem]
  · rw [hb.cell (p := ⟨w.heap.size, 2, none⟩) (by simp; omega)]; simp [go_sem]
  · rw [hb.cell (p := ⟨w.heap.size + 1, 0, none⟩) (by simp)]; simp [go_sem]

theorem ret_int {k : IntKind} {a b : Int} (h : a = b) : Ending.returned (.int k a) = .returned (.int k b) := by rw [h]

set_option maxRecDepth 100000 in
set_option maxHeartbeats 400000 in
theorem fits_walk (c : Col) (v : Va) (w : World) : Calls Try.prog 21 #[colV c, vaV v] w fun e w' => e = .returned (.int .i64 (fitE c v)) ∧ Below w.heap.size w w' := by
  have H15 : Hid _ := @fitE_15 c v
  have H5 : Hid _ := @fitE_5 c v
  have H0 : Hid _ := @fitE_0 c v
  have HE : Hid _ := @fitE_eq c v
  have H4 : Hid _ := @fitE_4 c v
  generalize fitE c v = E at *
  obtain ⟨x0, x1, x2, x3⟩ := c
  obtain ⟨y0, y1, y2⟩ := v
  dsimp only at H15 H5 H0 HE H4
  have HR := right_walk y0 y1 y2
  unfold valV at HR
  unfold colV vaV
  dsimp only
  go_enter Try.func21, Try.ntmps21
  go_wp2_with fail
  refine (HR _).mono ?_
  rintro e w1 ⟨rfl, B1⟩
  obtain ⟨HB, hz, c1, c2, d0⟩ := two_boxes B1
  clear B1 HR
  cases hr : rightB y0 y1 y2
  · go_wp2
    go_ret
    exact ⟨ret_int (H15.out hr).symm, HB⟩
  · by_cases hk : y0 = 0
    · subst hk
      cases hn : x2
      · go_wp2
        go_ret
        exact ⟨ret_int (H0.out hr (by simp) hn).symm, HB⟩
      · go_wp2
        go_ret
        exact ⟨ret_int (H5.out hr (by simp) hn).symm, HB⟩
    · have hk' : (y0 == 0) = false := beq_eq_false_iff_ne.2 hk
      by_cases ht : y0 = x1
      · have HT : Hid (y0 = x1) := ht
        have ht' : (y0 == x1) = true := beq_iff_eq.2 ht
        clear ht
        go_wp2
        go_ret
        exact ⟨ret_int (HE.out hr hk HT.out).symm, HB⟩
      · have ht' : (y0 == x1) = false := beq_eq_false_iff_ne.2 ht
        go_wp2
        go_ret
        exact ⟨ret_int (H4.out hr hk ht).symm, HB⟩
end Go.Proofs.Ytimfpabodmbkoaa
