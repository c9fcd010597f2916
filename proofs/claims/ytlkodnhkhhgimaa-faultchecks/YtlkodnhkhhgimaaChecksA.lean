/-
  The walks of the functions that FaultChecks hands in.
-/
import Derived.Test.YtlkodnhkhhgimaaFaultD
namespace Go.Proofs.Ytlkodnhkhhgimaa
open Go.RowKit

theorem calls_c1 (args : Array Value) (w : World) : (callFunc 14 args).run Try.prog w = .ok (.enter 14 args) w := by simp [go_sem]
theorem calls_c2 (args : Array Value) (w : World) : (callFunc 16 args).run Try.prog w = .ok (.enter 16 args) w := by simp [go_sem]

theorem c1_ok (p q : Nat) (n : Int) (h0 : 0 ≤ n) (h1 : n ≤ 10) (w : World) (hp : w.cell? ⟨p, 0, none⟩ = some (.int .i64 0)) (hq : w.cell? ⟨q, 0, none⟩ = some (.int .i64 n)) (hf : w.frozen? ⟨q, 0, none⟩ = false) :
    Calls Try.prog 14 #[.pointer (some ⟨p, 0, none⟩), .pointer (some ⟨q, 0, none⟩)] w fun e w' => e = .returned (.tuple #[]) ∧ w' = w.setCell ⟨q, 0, none⟩ (.int .i64 (n + 1)) := by
  go_enter Try.func14, Try.ntmps14
  go_wp2_with (go_at_call 15; refine (check_ok _).mono ?_; rintro e w' ⟨rfl, rfl⟩)
  go_end0
  exact ⟨rfl, rfl⟩

theorem c1_no (p q : Nat) (c : Int) (hc : (c != 0) = true) (w : World) (hp : w.cell? ⟨p, 0, none⟩ = some (.int .i64 c)) :
    Calls Try.prog 14 #[.pointer (some ⟨p, 0, none⟩), .pointer (some ⟨q, 0, none⟩)] w fun e w' => e = .panicked (stopped c 0) ∧ w' = w := by
  go_enter Try.func14, Try.ntmps14
  go_wp2_with (go_at_call 15; refine (check_no _ hc _).mono ?_; rintro e w' ⟨rfl, rfl⟩)
  exact ⟨rfl, rfl, rfl⟩

theorem c2_ok (p r q : Nat) (a n : Int) (h0 : 0 ≤ n) (h1 : n ≤ 10) (w : World) (hp : w.cell? ⟨p, 0, none⟩ = some (.int .i64 0)) (hr : w.cell? ⟨r, 0, none⟩ = some (.int .i64 a)) (hq : w.cell? ⟨q, 0, none⟩ = some (.int .i64 n)) (hf : w.frozen? ⟨q, 0, none⟩ = false) :
    Calls Try.prog 16 #[.pointer (some ⟨p, 0, none⟩), .pointer (some ⟨r, 0, none⟩), .pointer (some ⟨q, 0, none⟩)] w fun e w' => e = .returned (.tuple #[]) ∧ w' = w.setCell ⟨q, 0, none⟩ (.int .i64 (n + 1)) := by
  go_enter Try.func16, Try.ntmps16
  go_wp2_with (go_at_call 17; refine (stop_ok _ _).mono ?_; rintro e w' ⟨rfl, rfl⟩)
  go_end0
  exact ⟨rfl, rfl⟩

theorem c2_no (p r q : Nat) (c a : Int) (hc : (c != 0) = true) (w : World) (hp : w.cell? ⟨p, 0, none⟩ = some (.int .i64 c)) (hr : w.cell? ⟨r, 0, none⟩ = some (.int .i64 a)) :
    Calls Try.prog 16 #[.pointer (some ⟨p, 0, none⟩), .pointer (some ⟨r, 0, none⟩), .pointer (some ⟨q, 0, none⟩)] w fun e w' => e = .panicked (stopped c a) ∧ w' = w := by
  go_enter Try.func16, Try.ntmps16
  go_wp2_with (go_at_call 17; refine (stop_no _ _ hc _).mono ?_; rintro e w' ⟨rfl, rfl⟩)
  exact ⟨rfl, rfl, rfl⟩

theorem catch_c1_ok (p q : Nat) (n : Int) (h0 : 0 ≤ n) (h1 : n ≤ 10) (w : World) (lp : p < w.heap.size) (lq : q < w.heap.size) (hp : w.cell? ⟨p, 0, none⟩ = some (.int .i64 0)) (hq : w.cell? ⟨q, 0, none⟩ = some (.int .i64 n)) (hf : w.frozen? ⟨q, 0, none⟩ = false) :
    Calls Try.prog 9 #[.func (.func 14) #[] #[.pointer (some ⟨p, 0, none⟩), .pointer (some ⟨q, 0, none⟩)]] w fun e w' => e = .returned (faultV 0 0) ∧ Only (· = q) w w' ∧ w'.cell? ⟨q, 0, none⟩ = some (.int .i64 (n + 1)) ∧ w'.frozen? ⟨q, 0, none⟩ = false := by
  have hbw := below_catchW w
  have hz := hbw.size
  have hq' : (catchW w).cell? ⟨q, 0, none⟩ = some (.int .i64 n) := by rw [hbw.cell lq]; exact hq
  have hf' : (catchW w).frozen? ⟨q, 0, none⟩ = false := by rw [hbw.frozen lq]; exact hf
  refine (catch_any 14 calls_c1 _ w (· = q) (fun k hk e => by omega) (fun e w1 => e = .returned (.tuple #[]) ∧ w1 = (catchW w).setCell ⟨q, 0, none⟩ (.int .i64 (n + 1)))
    ((c1_ok p q n h0 h1 _ (by rw [hbw.cell lp]; exact hp) hq' hf').mono ?_)).mono ?_
  · rintro e w' ⟨rfl, rfl⟩
    exact ⟨⟨rfl, rfl⟩, (Only.refl (· = q) _).setCell (Or.inr rfl) _, _, _, _, .done⟩
  · rintro e w' ⟨e1, w1, c, a, t, ⟨rfl, rfl⟩, hc, rfl, ho, hat⟩
    cases hc
    refine ⟨rfl, Only.through hbw ho hat, ?_, ?_⟩
    · rw [hat.cell (by simp; omega) (by simp; omega)]; simp [World.cell?_setCell_same, hq']
    · rw [hat.frozen (by simp; omega) (by simp; omega)]; simp [hf']

theorem catch_c1_no (p q : Nat) (c : Int) (hc : (c != 0) = true) (w : World) (lp : p < w.heap.size) (hp : w.cell? ⟨p, 0, none⟩ = some (.int .i64 c)) :
    Calls Try.prog 9 #[.func (.func 14) #[] #[.pointer (some ⟨p, 0, none⟩), .pointer (some ⟨q, 0, none⟩)]] w fun e w' => e = .returned (faultV c 0) ∧ Below w.heap.size w w' := by
  have hbw := below_catchW w
  refine (catch_any 14 calls_c1 _ w (fun _ => False) (fun k hk e => e) (fun e w1 => e = .panicked (stopped c 0) ∧ w1 = catchW w)
    ((c1_no p q c hc _ (by rw [hbw.cell lp]; exact hp)).mono ?_)).mono ?_
  · rintro e w' ⟨rfl, rfl⟩
    exact ⟨⟨rfl, rfl⟩, Only.refl _ _, _, _, _, .stop c 0⟩
  · rintro e w' ⟨e1, w1, c, a, t, ⟨rfl, rfl⟩, hc, rfl, ho, hat⟩
    cases hc
    exact ⟨rfl, (Only.through hbw ho hat).none⟩

theorem catch_c2_ok (p r q : Nat) (a n : Int) (h0 : 0 ≤ n) (h1 : n ≤ 10) (w : World) (lp : p < w.heap.size) (lr : r < w.heap.size) (lq : q < w.heap.size) (hp : w.cell? ⟨p, 0, none⟩ = some (.int .i64 0)) (hr : w.cell? ⟨r, 0, none⟩ = some (.int .i64 a)) (hq : w.cell? ⟨q, 0, none⟩ = some (.int .i64 n)) (hf : w.frozen? ⟨q, 0, none⟩ = false) :
    Calls Try.prog 9 #[.func (.func 16) #[] #[.pointer (some ⟨p, 0, none⟩), .pointer (some ⟨r, 0, none⟩), .pointer (some ⟨q, 0, none⟩)]] w fun e w' => e = .returned (faultV 0 0) ∧ Only (· = q) w w' ∧ w'.cell? ⟨q, 0, none⟩ = some (.int .i64 (n + 1)) ∧ w'.frozen? ⟨q, 0, none⟩ = false := by
  have hbw := below_catchW w
  have hz := hbw.size
  have hq' : (catchW w).cell? ⟨q, 0, none⟩ = some (.int .i64 n) := by rw [hbw.cell lq]; exact hq
  have hf' : (catchW w).frozen? ⟨q, 0, none⟩ = false := by rw [hbw.frozen lq]; exact hf
  refine (catch_any 16 calls_c2 _ w (· = q) (fun k hk e => by omega) (fun e w1 => e = .returned (.tuple #[]) ∧ w1 = (catchW w).setCell ⟨q, 0, none⟩ (.int .i64 (n + 1)))
    ((c2_ok p r q a n h0 h1 _ (by rw [hbw.cell lp]; exact hp) (by rw [hbw.cell lr]; exact hr) hq' hf').mono ?_)).mono ?_
  · rintro e w' ⟨rfl, rfl⟩
    exact ⟨⟨rfl, rfl⟩, (Only.refl (· = q) _).setCell (Or.inr rfl) _, _, _, _, .done⟩
  · rintro e w' ⟨e1, w1, c, a, t, ⟨rfl, rfl⟩, hc, rfl, ho, hat⟩
    cases hc
    refine ⟨rfl, Only.through hbw ho hat, ?_, ?_⟩
    · rw [hat.cell (by simp; omega) (by simp; omega)]; simp [World.cell?_setCell_same, hq']
    · rw [hat.frozen (by simp; omega) (by simp; omega)]; simp [hf']

theorem catch_c2_no (p r q : Nat) (c a : Int) (hc : (c != 0) = true) (w : World) (lp : p < w.heap.size) (lr : r < w.heap.size) (hp : w.cell? ⟨p, 0, none⟩ = some (.int .i64 c)) (hr : w.cell? ⟨r, 0, none⟩ = some (.int .i64 a)) :
    Calls Try.prog 9 #[.func (.func 16) #[] #[.pointer (some ⟨p, 0, none⟩), .pointer (some ⟨r, 0, none⟩), .pointer (some ⟨q, 0, none⟩)]] w fun e w' => e = .returned (faultV c a) ∧ Below w.heap.size w w' := by
  have hbw := below_catchW w
  refine (catch_any 16 calls_c2 _ w (fun _ => False) (fun k hk e => e) (fun e w1 => e = .panicked (stopped c a) ∧ w1 = catchW w)
    ((c2_no p r q c a hc _ (by rw [hbw.cell lp]; exact hp) (by rw [hbw.cell lr]; exact hr)).mono ?_)).mono ?_
  · rintro e w' ⟨rfl, rfl⟩
    exact ⟨⟨rfl, rfl⟩, Only.refl _ _, _, _, _, .stop c a⟩
  · rintro e w' ⟨e1, w1, c, a, t, ⟨rfl, rfl⟩, hc, rfl, ho, hat⟩
    cases hc
    exact ⟨rfl, (Only.through hbw ho hat).none⟩

end Go.Proofs.Ytlkodnhkhhgimaa
