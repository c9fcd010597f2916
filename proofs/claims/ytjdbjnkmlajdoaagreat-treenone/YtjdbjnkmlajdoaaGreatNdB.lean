/-
  great, Plain, Size (the program's and the document's), Weigh.
-/
import Derived.Test.YtjdbjnkmlajdoaaGreatNdA
namespace Go.Proofs.YtjdbjnkmlajdoaaGreat.L5
open Go.RowKit

def greatB (n : No) : Bool := decide (400 < n.recs.length) || decide (400 < n.kids.length) || n.recs.any (fun s => decide (1000 < s.size))

theorem great_small {n : No} (h : greatB n = false) : n.recs.length ≤ 400 ∧ n.kids.length ≤ 400 ∧ ∀ s ∈ n.recs, s.size ≤ 1000 := by
  simpa [greatB, and_assoc] using h

theorem small_of_great {n : No} (h : greatB n = false) : n.small := by
  obtain ⟨h1, h2, h3⟩ := great_small h
  exact ⟨by omega, by omega, fun s hs => by have := h3 s hs; omega⟩

/-- The cells of a node that was boxed last. -/
theorem box_cells (w : World) (x y z : Value) (t : TypeId) : (w.alloc (.cells #[x, y, z] t)).cell? ⟨w.heap.size, 0, none⟩ = some x ∧ (w.alloc (.cells #[x, y, z] t)).cell? ⟨w.heap.size, 1, none⟩ = some y ∧ (w.alloc (.cells #[x, y, z] t)).cell? ⟨w.heap.size, 2, none⟩ = some z := by
  refine ⟨?_, ?_, ?_⟩ <;> simp [go_sem]

set_option maxRecDepth 100000 in
set_option maxHeartbeats 400000 in
theorem size_walk {n : No} {a : Option Addr} {c : Nat} {a' : Option Addr} {c' : Nat} {w : World} (hr : NR w n a c a' c') (hs : n.small) :
    Calls Tryz.prog 109 #[nodeV n a c a' c'] w fun e w' => e = .returned (.int .i64 (n.size : Int)) ∧ Below w.heap.size w w' := by
  have h1 := hs.recs
  have h2 := hs.kids
  have HR : Hid (Rd (w.alloc (.cells #[.bool n.leaf, .slice a n.recs.length c, .slice a' n.kids.length c'] 91)) a c (svs n.recs)) := hr.recs.below (below_alloc _ _)
  clear hr
  go_enter Tryz.func109, Tryz.ntmps109
  unfold nodeV
  obtain ⟨b0, b1, b2⟩ := box_cells w (.bool n.leaf) (.slice a n.recs.length c) (.slice a' n.kids.length c') 91
  have HB := below_alloc w (.cells #[.bool n.leaf, .slice a n.recs.length c, .slice a' n.kids.length c'] 91)
  have hz : w.heap.size < (w.alloc (.cells #[.bool n.leaf, .slice a n.recs.length c, .slice a' n.kids.length c'] 91)).heap.size := by simp
  go_wp2
  generalize w.alloc (.cells #[.bool n.leaf, .slice a n.recs.length c, .slice a' n.kids.length c'] 91) = W at *
  go_loop [3, 14] (fun x i => ∃ j : Nat, j ≤ n.recs.length ∧ i = .int .i64 (j : Int) ∧ x = .int .i64 ((3 + 4 * n.kids.length + weigh (n.recs.take j) : Nat) : Int)) (fun _ i => n.recs.length - (intOf i).toNat)
  case atStart => exact ⟨0, Nat.zero_le _, rfl, by simp [weigh]⟩
  case round =>
    obtain ⟨j, hj, rfl, rfl⟩ := hrel
    have hw := weigh_take_le n.recs hs.each h1 j
    by_cases hlt : j < n.recs.length
    · obtain ⟨b, o, rfl, hb, hc⟩ := HR.out.str j hlt
      have HW : Hid _ := weigh_snoc n.recs j hlt
      have hsz := hs.each _ (List.getElem_mem hlt)
      have hlt' : (j : Int) < (n.recs.length : Int) := by omega
      generalize n.recs[j] = s at *
      go_wp2
      go_round
      case rel => exact ⟨j + 1, hlt, by go_num, by rw [HW.out]; go_num⟩
      case measure => simp [intOf]; omega
    · have hlt' : (n.recs.length : Int) ≤ (j : Int) := by omega
      go_wp2
      go_ret
      refine ⟨ret_int ?_, HB⟩
      rw [List.take_of_length_le (by omega)]
      unfold No.size
      omega

set_option maxRecDepth 100000 in
set_option maxHeartbeats 400000 in
theorem weigh_walk {l : List ByteArray} {a : Option Addr} {c : Nat} {w : World} (hr : Rd w a c (svs l)) (h1 : l.length ≤ 1000) (hs : ∀ s ∈ l, s.size ≤ 5000) :
    Calls Tryz.prog 101 #[.slice a l.length c] w fun e w' => e = .returned (.int .i64 (weigh l : Int)) ∧ w' = w := by
  have HR : Hid (Rd w a c (svs l)) := hr
  clear hr
  go_enter Tryz.func101, Tryz.ntmps101
  go_wp2
  go_loop [3, 4] (fun x i => ∃ j : Nat, j ≤ l.length ∧ i = .int .i64 (j : Int) ∧ x = .int .i64 (weigh (l.take j) : Int)) (fun _ i => l.length - (intOf i).toNat)
  case atStart => exact ⟨0, Nat.zero_le _, rfl, by simp [weigh]⟩
  case round =>
    obtain ⟨j, hj, rfl, rfl⟩ := hrel
    have hw := weigh_take_le l hs h1 j
    by_cases hlt : j < l.length
    · obtain ⟨b, o, rfl, hb, hc⟩ := HR.out.str j hlt
      have HW : Hid _ := weigh_snoc l j hlt
      have hsz := hs _ (List.getElem_mem hlt)
      have hlt' : (j : Int) < (l.length : Int) := by omega
      generalize l[j] = s at *
      go_wp2
      go_round
      case rel => exact ⟨j + 1, hlt, by go_num, by rw [HW.out]; go_num⟩
      case measure => simp [intOf]; omega
    · have hlt' : (l.length : Int) ≤ (j : Int) := by omega
      go_wp2
      go_ret
      exact ⟨ret_int (by rw [List.take_of_length_le (by omega)]), rfl⟩

set_option maxRecDepth 100000 in
set_option maxHeartbeats 400000 in
theorem rsize_walk {n : No} {a : Option Addr} {c : Nat} {a' : Option Addr} {c' : Nat} {w : World} (hr : NR w n a c a' c') (hs : n.small) :
    Calls Tryz.prog 82 #[nodeV n a c a' c'] w fun e w' => e = .returned (.int .i64 (n.size : Int)) ∧ Below w.heap.size w w' := by
  have h1 := hs.recs
  have h2 := hs.kids
  have hw := weigh_take_le n.recs hs.each h1 n.recs.length
  rw [List.take_length] at hw
  have HW : ∀ k, Calls Tryz.prog 101 #[.slice a n.recs.length c] ((w.alloc (.cells #[.bool n.leaf, .slice a n.recs.length c, .slice a' n.kids.length c'] 94)).drewN k) fun e w' => e = .returned (.int .i64 (weigh n.recs : Int)) ∧ w' = ((w.alloc (.cells #[.bool n.leaf, .slice a n.recs.length c, .slice a' n.kids.length c'] 94)).drewN k) := fun k => weigh_walk (hr.recs.below (below_drewN (below_alloc _ _) k)) h1 hs.each
  go_enter Tryz.func82, Tryz.ntmps82
  unfold nodeV
  obtain ⟨b0, b1, b2⟩ := box_cells w (.bool n.leaf) (.slice a n.recs.length c) (.slice a' n.kids.length c') 94
  have HB := below_alloc w (.cells #[.bool n.leaf, .slice a n.recs.length c, .slice a' n.kids.length c'] 94)
  have hz : w.heap.size < (w.alloc (.cells #[.bool n.leaf, .slice a n.recs.length c, .slice a' n.kids.length c'] 94)).heap.size := by simp
  go_wp2
  generalize w.alloc (.cells #[.bool n.leaf, .slice a n.recs.length c, .slice a' n.kids.length c'] 94) = W at *
  go_quiet ((go_at_call 101; exact Calls.quiet_of_same (HW _)))
  go_wp2
  go_ret
  refine ⟨ret_int ?_, below_drewN HB _⟩
  unfold No.size
  omega
end Go.Proofs.YtjdbjnkmlajdoaaGreat.L5
