/-
  The walk of FaultChecks: whatever c and at: true.
-/
import Derived.Test.YtlkodnhkhhgimaaChecksA
namespace Go.Proofs.Ytlkodnhkhhgimaa
open Go.RowKit

set_option maxHeartbeats 400000 in
theorem checks_ok (a : Int) (w : World) : Calls Try.prog 4 #[.int .i64 0, .int .i64 a] w fun e w' => e = .returned (.bool true) ∧ Below w.heap.size w w' := by
  have hmf : ∀ (fn : Fn) (first cap : Array Value) (w : World), (Instr.makeFunc fn first cap).run Try.prog w = .ok (.func fn first cap) w := fun _ _ _ _ => rfl
  go_enter Try.func4, Try.ntmps4
  go_wp2_with fail
  refine (awake_any _).mono ?_
  rintro e w1 ⟨rfl, hb1⟩
  have hz1 := hb1.size
  simp at hz1
  have p1 := hb1.cell (p := ⟨w.heap.size, 0, none⟩) (by simp; omega)
  have p2 := hb1.cell (p := ⟨w.heap.size + 1, 0, none⟩) (by simp)
  simp [go_sem] at p1 p2
  have l1 : w.heap.size < w1.heap.size := by omega
  have l2 : w.heap.size + 1 < w1.heap.size := by omega
  have b1 : Below w.heap.size w w1 := (((Below.refl _ _).alloc (Nat.le_refl _) _).alloc (by simp) _).trans (hb1.mono (by simp; omega))
  clear hb1 hz1
  go_wp2_with fail
  refine (catch_c1_ok w.heap.size w1.heap.size 0 (by decide) (by decide) _ (by simp; omega) (by simp) (by simp [go_sem, l1, p1]) (by simp [go_sem]) (by simp [go_sem])).mono ?_
  rintro e w2 ⟨rfl, o2, c2, f2⟩
  have hz2 := o2.size
  simp at hz2
  have p3 := o2.cell (p := ⟨w.heap.size, 0, none⟩) (by simp; omega) (by simp; omega)
  have p4 := o2.cell (p := ⟨w.heap.size + 1, 0, none⟩) (by simp; omega) (by simp; omega)
  simp [go_sem, l1, l2, p1, p2] at p3 p4
  have m1 : w.heap.size < w2.heap.size := by omega
  have m2 : w.heap.size + 1 < w2.heap.size := by omega
  have m3 : w1.heap.size < w2.heap.size := by omega
  have b2 : Below w.heap.size w w2 := (b1.alloc (by omega) _).trans (o2.below (by simp; omega) (fun k hk => by omega))
  clear o2 hz2 b1 p1 p2
  simp only [faultV]
  go_wp2_with fail
  refine (catch_c2_ok w.heap.size (w.heap.size + 1) w1.heap.size a (0 + 1) (by decide) (by decide) _ (by simp; omega) (by simp; omega) (by simp; omega) (by simp [go_sem, m1, p3]) (by simp [go_sem, m2, p4]) (by simp [go_sem, m3, c2]) (by simp [go_sem, m3, f2])).mono ?_
  rintro e w3 ⟨rfl, o3, c3, f3⟩
  have hz3 := o3.size
  simp at hz3
  have p5 := o3.cell (p := ⟨w.heap.size, 0, none⟩) (by simp; omega) (by simp; omega)
  have p6 := o3.cell (p := ⟨w.heap.size + 1, 0, none⟩) (by simp; omega) (by simp; omega)
  have p7 := o3.cell (p := ⟨w2.heap.size, 0, none⟩) (by simp) (by simp; omega)
  have p8 := o3.cell (p := ⟨w2.heap.size, 1, none⟩) (by simp) (by simp; omega)
  simp [go_sem, m1, m2, p3, p4] at p5 p6 p7 p8
  have n1 : w.heap.size < w3.heap.size := by omega
  have n2 : w.heap.size + 1 < w3.heap.size := by omega
  have n3 : w1.heap.size < w3.heap.size := by omega
  have n4 : w2.heap.size < w3.heap.size := by omega
  have b3 : Below w.heap.size w w3 := (b2.alloc (by omega) _).trans (o3.below (by simp; omega) (fun k hk => by omega))
  clear o3 hz3 b2 p3 p4 c2 f2
  simp only [faultV]
  go_wp2
  go_ret
  exact ⟨rfl, b3.alloc (by omega) _⟩

set_option maxHeartbeats 400000 in
theorem checks_no (c a : Int) (hc : (c != 0) = true) (hc' : (c == 0) = false) (w : World) : Calls Try.prog 4 #[.int .i64 c, .int .i64 a] w fun e w' => e = .returned (.bool true) ∧ Below w.heap.size w w' := by
  have hmf : ∀ (fn : Fn) (first cap : Array Value) (w : World), (Instr.makeFunc fn first cap).run Try.prog w = .ok (.func fn first cap) w := fun _ _ _ _ => rfl
  go_enter Try.func4, Try.ntmps4
  go_wp2_with fail
  refine (awake_any _).mono ?_
  rintro e w1 ⟨rfl, hb1⟩
  have hz1 := hb1.size
  simp at hz1
  have p1 := hb1.cell (p := ⟨w.heap.size, 0, none⟩) (by simp; omega)
  have p2 := hb1.cell (p := ⟨w.heap.size + 1, 0, none⟩) (by simp)
  simp [go_sem] at p1 p2
  have l1 : w.heap.size < w1.heap.size := by omega
  have l2 : w.heap.size + 1 < w1.heap.size := by omega
  have b1 : Below w.heap.size w w1 := (((Below.refl _ _).alloc (Nat.le_refl _) _).alloc (by simp) _).trans (hb1.mono (by simp; omega))
  clear hb1 hz1
  go_wp2_with fail
  refine (catch_c1_no w.heap.size w1.heap.size c hc _ (by simp; omega) (by simp [go_sem, l1, p1])).mono ?_
  rintro e w2 ⟨rfl, o2⟩
  have hz2 := o2.size
  simp at hz2
  have p3 := o2.cell (p := ⟨w.heap.size, 0, none⟩) (by simp; omega)
  have p4 := o2.cell (p := ⟨w.heap.size + 1, 0, none⟩) (by simp; omega)
  have c2 := o2.cell (p := ⟨w1.heap.size, 0, none⟩) (by simp)
  simp [go_sem, l1, l2, p1, p2] at p3 p4 c2
  have m1 : w.heap.size < w2.heap.size := by omega
  have m2 : w.heap.size + 1 < w2.heap.size := by omega
  have m3 : w1.heap.size < w2.heap.size := by omega
  have b2 : Below w.heap.size w w2 := (b1.alloc (by omega) _).trans (o2.mono (by simp; omega))
  clear o2 hz2 b1 p1 p2
  simp only [faultV]
  go_wp2_with fail
  refine (catch_c2_no w.heap.size (w.heap.size + 1) w1.heap.size c a hc _ (by simp; omega) (by simp; omega) (by simp [go_sem, m1, p3]) (by simp [go_sem, m2, p4])).mono ?_
  rintro e w3 ⟨rfl, o3⟩
  have hz3 := o3.size
  simp at hz3
  have p5 := o3.cell (p := ⟨w.heap.size, 0, none⟩) (by simp; omega)
  have p6 := o3.cell (p := ⟨w.heap.size + 1, 0, none⟩) (by simp; omega)
  have c3 := o3.cell (p := ⟨w1.heap.size, 0, none⟩) (by simp; omega)
  have p7 := o3.cell (p := ⟨w2.heap.size, 0, none⟩) (by simp)
  have p8 := o3.cell (p := ⟨w2.heap.size, 1, none⟩) (by simp)
  simp [go_sem, m1, m2, m3, p3, p4, c2] at p5 p6 p7 p8 c3
  have n1 : w.heap.size < w3.heap.size := by omega
  have n2 : w.heap.size + 1 < w3.heap.size := by omega
  have n3 : w1.heap.size < w3.heap.size := by omega
  have n4 : w2.heap.size < w3.heap.size := by omega
  have b3 : Below w.heap.size w w3 := (b2.alloc (by omega) _).trans (o3.mono (by simp; omega))
  clear o3 hz3 b2 p3 p4 c2
  simp only [faultV]
  go_wp2
  go_ret
  exact ⟨rfl, b3.alloc (by omega) _⟩

end Go.Proofs.Ytlkodnhkhhgimaa
