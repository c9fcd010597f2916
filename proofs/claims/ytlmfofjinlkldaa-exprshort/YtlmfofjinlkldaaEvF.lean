/-
  Expr: must, column, null, own of package expr.
-/
import Derived.Test.YtlmfofjinlkldaaEvE
import Derived.Test.YtlmfofjinlkldaaFaultA
namespace Go.Proofs.Ytlmfofjinlkldaa
open Go.RowKit

/-- How a call ends that is worth that: it answers the value, or it gives up. -/
inductive Worth (V : Vv → Value) : VE → Ending → Prop
  | ok (v : Vv) : Worth V (v, 0) (.returned (V v))
  | no (v : Vv) (e : Int) (h : (e != 0) = true) : Worth V (v, e) (.panicked (stopped e 0))

def EvP (r : VE) (w : World) (e : Ending) (W : World) : Prop := Worth vvV r e ∧ Below w.heap.size w W

theorem below_two (w : World) (o1 o2 : Obj) : Below w.heap.size w ((w.alloc o1).alloc o2) := (Rw.below_alloc _ _).alloc (by simp) _

/-- A value's box, behind what leaves it as it was. -/
theorem vbox {W w1 : World} {p : Nat} {a b c : Value} (h : W.heap[p]? = some (.cells #[a, b, c] 44 (0, 0))) (hb : Below W.heap.size W w1) :
    w1.cell? ⟨p, 0, none⟩ = some a ∧ w1.cell? ⟨p, 1, none⟩ = some b ∧ w1.cell? ⟨p, 2, none⟩ = some c ∧ w1.frozen? ⟨p, 0, none⟩ = false ∧ w1.frozen? ⟨p, 1, none⟩ = false ∧ w1.frozen? ⟨p, 2, none⟩ = false ∧ p < w1.heap.size := by
  have h1 : w1.heap[p]? = some (.cells #[a, b, c] 44 (0, 0)) := (hb.block p (Array.getElem?_eq_some_iff.1 h).1).trans h
  exact ⟨by rw [cell_of_row _ _ _ _ _ _ h1]; rfl, by rw [cell_of_row _ _ _ _ _ _ h1]; rfl, by rw [cell_of_row _ _ _ _ _ _ h1]; rfl, frozen_of_row _ _ _ _ _ h1, frozen_of_row _ _ _ _ _ h1, frozen_of_row _ _ _ _ _ h1, (Array.getElem?_eq_some_iff.1 h1).1⟩

theorem heap_two (w : World) (o1 o2 : Obj) : ((w.alloc o1).alloc o2).heap[w.heap.size + 1]? = some o2 := by
  rw [show w.heap.size + 1 = (w.alloc o1).heap.size by simp]; exact Rw.heap_new _ _

theorem below_set3 {B p : Nat} {a w : World} (hb : B ≤ p) (h : Below B a w) (v0 v1 v2 : Value) : Below B a (((w.setCell ⟨p, 0, none⟩ v0).setCell ⟨p, 1, none⟩ v1).setCell ⟨p, 2, none⟩ v2) :=
  ((h.setCell hb v0).setCell hb v1).setCell hb v2

theorem mustV_ok (v : Vv) (w : World) : Calls Try.prog 98 #[vvV v, .int .i64 0] w fun e w' => e = .returned (vvV v) ∧ Below w.heap.size w w' := by
  obtain ⟨k, n, s⟩ := v
  unfold vvV valV
  go_enter Try.func98, Try.ntmps98
  go_wp2_with (go_at_call 73; refine (check_ok _).mono ?_; rintro e w' ⟨rfl, rfl⟩)
  exact bodyPost_ret (v := .agg #[.int .i64 k, .int .i64 n, .string s]) (by simp [results, Try.results98, go_sem]) rfl ⟨rfl, below_two _ _ _⟩

theorem mustV_no (v : Vv) (c : Int) (hc : (c != 0) = true) (w : World) : Calls Try.prog 98 #[vvV v, .int .i64 c] w fun e w' => e = .panicked (stopped c 0) ∧ Below w.heap.size w w' := by
  obtain ⟨k, n, s⟩ := v
  unfold vvV valV
  go_enter Try.func98, Try.ntmps98
  go_wp2_with (go_at_call 73; refine (check_no _ hc _).mono ?_; rintro e w' ⟨rfl, rfl⟩)
  exact ⟨rfl, rfl, below_two _ _ _⟩

theorem mustI_ok (v : Int) (w : World) : Calls Try.prog 100 #[.int .i64 v, .int .i64 0] w fun e w' => e = .returned (.int .i64 v) ∧ w' = w := by
  go_enter Try.func100, Try.ntmps100
  go_wp2_with (go_at_call 73; refine (check_ok _).mono ?_; rintro e w' ⟨rfl, rfl⟩)
  go_ret
  exact ⟨rfl, rfl⟩

theorem mustI_no (v : Int) (c : Int) (hc : (c != 0) = true) (w : World) : Calls Try.prog 100 #[.int .i64 v, .int .i64 c] w fun e w' => e = .panicked (stopped c 0) ∧ w' = w := by
  go_enter Try.func100, Try.ntmps100
  go_wp2_with (go_at_call 73; refine (check_no _ hc _).mono ?_; rintro e w' ⟨rfl, rfl⟩)
  exact ⟨rfl, rfl, rfl⟩

def scV (a : Option Addr) (n c : Nat) (left : Int) : Value := .agg #[.slice a n c, .int .i64 left]

theorem evCol_lo {rs : List RowL} {v c : Int} (h : v < 0) : evCol rs v c = (vz, 15) := by unfold evCol; rw [if_pos h]
theorem evCol_hi {rs : List RowL} {v c : Int} (h : ¬ v < 0) (h1 : (rs.length : Int) ≤ v) : evCol rs v c = (vz, 15) := by
  unfold evCol
  rw [if_neg h, List.getElem?_eq_none (by omega)]
theorem evCol_clo {rs : List RowL} {j : Nat} {r : RowL} {c : Int} (hr : rs[j]? = some r) (h : c < 0) : evCol rs (j : Int) c = (vz, 15) := by
  unfold evCol
  rw [if_neg (by omega)]
  simp only [Int.toNat_natCast, hr, if_pos h]
theorem evCol_chi {rs : List RowL} {j : Nat} {r : RowL} {c : Int} (hr : rs[j]? = some r) (h : ¬ c < 0) (h1 : (r.l.length : Int) ≤ c) : evCol rs (j : Int) c = (vz, 15) := by
  unfold evCol
  rw [if_neg (by omega)]
  simp only [Int.toNat_natCast, hr, if_neg h]
  rw [List.getElem?_eq_none (by omega)]
theorem evCol_at {rs : List RowL} {j i : Nat} {r : RowL} {u : Vv} (hr : rs[j]? = some r) (hu : r.l[i]? = some u) : evCol rs (j : Int) (i : Int) = (u, 0) := by
  unfold evCol
  rw [if_neg (by omega)]
  simp only [Int.toNat_natCast, hr]
  rw [if_neg (by omega)]
  simp only [hu]

set_option maxRecDepth 100000 in
set_option maxHeartbeats 400000 in
theorem column_walk {rs : List RowL} {a : Option Addr} {c : Nat} {left : Int} {w : World} (hS : RowsIn w a rs) (hF : RowsFit rs) (v k : Int) :
    Calls Try.prog 74 #[scV a rs.length c left, .int .i64 v, .int .i64 k] w (EvP (evCol rs v k) w) := by
  have hl : rs.length ≤ 9223372036854775807 := hF.1
  have hB := fun o1 o2 => Rw.dh (below_two w o1 o2)
  unfold scV
  by_cases h0 : v < 0
  · rw [evCol_lo h0]
    go_enter Try.func74, Try.ntmps74
    go_wp2_with (go_at_call 73; refine (check_no 15 rfl _).mono ?_; rintro e w' ⟨rfl, rfl⟩)
    exact ⟨rfl, .no _ _ rfl, (hB _ _).out⟩
  by_cases h1 : (rs.length : Int) ≤ v
  · rw [evCol_hi h0 h1]
    go_enter Try.func74, Try.ntmps74
    go_wp2_with (go_at_call 73; refine (check_no 15 rfl _).mono ?_; rintro e w' ⟨rfl, rfl⟩)
    exact ⟨rfl, .no _ _ rfl, (hB _ _).out⟩
  obtain ⟨j, rfl⟩ : ∃ j : Nat, v = (j : Int) := ⟨v.toNat, by omega⟩
  have hj : j < rs.length := by omega
  obtain ⟨b, o, r, rfl, hb, hr, hc⟩ := hS.rows.at hj
  have hrl : r.l.length ≤ 9223372036854775807 := (hF.2 r (List.mem_of_getElem? hr)).1
  have hv := hS.vals r (List.mem_of_getElem? hr)
  have c0 : w.cell? ⟨b, o + j, none⟩ = some (.slice r.a r.l.length r.c) := by have := hc 0 _ rfl; simpa using this
  clear hc
  by_cases h2 : k < 0
  · rw [evCol_clo hr h2]
    have HR := Rw.dh hr
    clear hr
    go_enter Try.func74, Try.ntmps74
    go_wp2_with (go_at_call 73; refine (check_no 15 rfl _).mono ?_; rintro e w' ⟨rfl, rfl⟩)
    exact ⟨rfl, .no _ _ rfl, (hB _ _).out⟩
  by_cases h3 : (r.l.length : Int) ≤ k
  · rw [evCol_chi hr h2 h3]
    have HR := Rw.dh hr
    clear hr
    go_enter Try.func74, Try.ntmps74
    go_wp2_with (go_at_call 73; refine (check_no 15 rfl _).mono ?_; rintro e w' ⟨rfl, rfl⟩)
    exact ⟨rfl, .no _ _ rfl, (hB _ _).out⟩
  obtain ⟨i, rfl⟩ : ∃ i : Nat, k = (i : Int) := ⟨k.toNat, by omega⟩
  have hi : i < r.l.length := by omega
  obtain ⟨b', o', u, hra, hb', hu, hc'⟩ := hv.at hi
  rw [evCol_at hr hu]
  have d0 : w.cell? ⟨b', o' + i * 3, none⟩ = some (.int .i64 u.k) := hc' 0 _ rfl
  have d1 : w.cell? ⟨b', o' + i * 3 + 1, none⟩ = some (.int .i64 u.n) := hc' 1 _ rfl
  have d2 : w.cell? ⟨b', o' + i * 3 + 2, none⟩ = some (.string u.s) := hc' 2 _ rfl
  rw [hra] at c0
  have HR := Rw.dh hr
  have HU := Rw.dh hu
  clear hr hu hc' hv hra
  go_enter Try.func74, Try.ntmps74
  go_wp2
  exact bodyPost_ret (v := vvV u) (by simp [results, Try.results74, go_sem, vvV, valV]) rfl ⟨.ok u, (hB _ _).out⟩

set_option maxRecDepth 100000 in
set_option maxHeartbeats 800000 in
theorem null_walk (v : Vv) (w : World) : Calls Try.prog 102 #[vvV v] w fun e w' => e = .returned (vvV (ofVv (if isZ v then 1 else 0))) ∧ Below w.heap.size w w' := by
  obtain ⟨k, n, s⟩ := v
  have H1 : Hid (∀ W, Calls Try.prog 96 #[.int .i64 1] W fun e w' => e = .returned (.agg #[.int .i64 1, .int .i64 1, .string ⟨#[]⟩]) ∧ Below W.heap.size W w') := fun W => (of_walk 1 W).mono (by rintro e w' ⟨rfl, hb⟩; exact ⟨by simp [ofV, valV], hb⟩)
  have H0 : Hid (∀ W, Calls Try.prog 96 #[.int .i64 0] W fun e w' => e = .returned (.agg #[.int .i64 1, .int .i64 0, .string ⟨#[]⟩]) ∧ Below W.heap.size W w') := fun W => (of_walk 0 W).mono (by rintro e w' ⟨rfl, hb⟩; exact ⟨by simp [ofV, valV], hb⟩)
  have hz : isZ ⟨k, n, s⟩ = (k == 0 && n == 0 && s.toList == []) := rfl
  rw [hz]
  clear hz
  have fin : ∀ (b : Bool) W w', Hid (Below w.heap.size w W) → Below W.heap.size W w' → Below w.heap.size w w' := fun _ W w' h1 h2 => h1.out.trans (h2.mono h1.out.size)
  have hB := fun o1 o2 => Rw.dh (below_two w o1 o2)
  unfold vvV valV
  cases h1 : (k == 0) <;> cases h2 : (n == 0) <;> cases h3 : (s.toList == [])
  case true.true.true =>
    go_enter Try.func102, Try.ntmps102
    go_wp2_with fail
    refine (H1.out _).mono ?_
    rintro e w1 ⟨rfl, hb⟩
    have HB := Rw.dh (fin true _ _ (hB _ _) hb)
    obtain ⟨z0, z1, z2, f0, f1, f2, hlt⟩ := vbox (heap_two w _ _) hb
    clear hb
    go_wp2
    exact bodyPost_ret (v := .agg #[.int .i64 1, .int .i64 1, .string ⟨#[]⟩]) (by simp [results, Try.results102, go_sem, z0, z1, z2]) rfl ⟨by simp [ofVv], below_set3 (Nat.le_succ _) HB.out _ _ _⟩
  all_goals
    go_enter Try.func102, Try.ntmps102
    go_wp2_with fail
    refine (H0.out _).mono ?_
    rintro e w1 ⟨rfl, hb⟩
    have HB := Rw.dh (fin true _ _ (hB _ _) hb)
    obtain ⟨z0, z1, z2, f0, f1, f2, hlt⟩ := vbox (heap_two w _ _) hb
    clear hb
    go_wp2
    exact bodyPost_ret (v := .agg #[.int .i64 1, .int .i64 0, .string ⟨#[]⟩]) (by simp [results, Try.results102, go_sem, z0, z1, z2]) rfl ⟨by simp [ofVv], below_set3 (Nat.le_succ _) HB.out _ _ _⟩
end Go.Proofs.Ytlmfofjinlkldaa
