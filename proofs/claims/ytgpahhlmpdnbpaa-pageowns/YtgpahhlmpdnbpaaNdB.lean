/-
  great, Plain, Size (the program's and the document's), Weigh.
-/
import Derived.Test.YtgpahhlmpdnbpaaNdA
namespace Go.Proofs.Ytgpahhlmpdnbpaa
open Go.RowKit

def greatB (n : No) : Bool := decide (400 < n.recs.length) || decide (400 < n.kids.length) || n.recs.any (fun s => decide (1000 < s.size))

theorem great_small {n : No} (h : greatB n = false) : n.recs.length ≤ 400 ∧ n.kids.length ≤ 400 ∧ ∀ s ∈ n.recs, s.size ≤ 1000 := by
  simpa [greatB, and_assoc] using h

theorem small_of_great {n : No} (h : greatB n = false) : n.small := by
  obtain ⟨h1, h2, h3⟩ := great_small h
  exact ⟨by omega, by omega, fun s hs => by have := h3 s hs; omega⟩

/-- The cells of a node that was boxed last. -/
theorem box_cells (w : World) (x y z : Value) (t : TypeId) : (w.alloc (.cells #[x, y, z] t)).cell? ⟨w.heap.size, 0, none⟩ = some x ∧ (w.alloc (.cells #[x, y, z] t)).cell? ⟨w.heap.size, 1, none⟩ = some y ∧ (w.alloc (.cells #[x, y, z] t)).cell? ⟨w.heap.size, 2, none⟩ = some z := by
  refine ⟨?_, ?_, ?_⟩ <;> simp [go_sem]

set_option maxRecDepth 100000 in
set_option maxHeartbeats 400000 in
theorem great_walk {n : No} {a : Option Addr} {c : Nat} {a' : Option Addr} {c' : Nat} {w : World} (hr : NR w n a c a' c') :
    Calls Try.prog 7 #[nodeV n a c a' c'] w fun e w' => e = .returned (.bool (greatB n)) ∧ Below w.heap.size w w' := by
  have h1 : n.recs.length ≤ c := by have := hr.recs.1; rwa [svs_length] at this
  have h2 := hr.recs.2.1
  have h3 : n.kids.length ≤ c' := by have := hr.kids.1; rwa [ivs_length] at this
  have h4 := hr.kids.2.1
  unfold maxLen at h2 h4
  have HR : Hid (Rd (w.alloc (.cells #[.bool n.leaf, .slice a n.recs.length c, .slice a' n.kids.length c'] 25)) a c (svs n.recs)) := hr.recs.below (below_alloc _ _)
  clear hr
  go_enter Try.func7, Try.ntmps7
  unfold nodeV
  by_cases k1 : 400 < n.recs.length
  · have hg : greatB n = true := by simp [greatB, k1]
    have k1' : (400 : Int) < (n.recs.length : Int) := by omega
    go_wp2
    go_ret
    exact ⟨ret_bool hg.symm, below_alloc _ _⟩
  have k1' : (n.recs.length : Int) ≤ 400 := by omega
  by_cases k2 : 400 < n.kids.length
  · have hg : greatB n = true := by simp [greatB, k2]
    have k2' : (400 : Int) < (n.kids.length : Int) := by omega
    go_wp2
    go_ret
    exact ⟨ret_bool hg.symm, below_alloc _ _⟩
  have k2' : (n.kids.length : Int) ≤ 400 := by omega
  obtain ⟨b0, b1, b2⟩ := box_cells w (.bool n.leaf) (.slice a n.recs.length c) (.slice a' n.kids.length c') 25
  have HB := below_alloc w (.cells #[.bool n.leaf, .slice a n.recs.length c, .slice a' n.kids.length c'] 25)
  have hz : w.heap.size < (w.alloc (.cells #[.bool n.leaf, .slice a n.recs.length c, .slice a' n.kids.length c'] 25)).heap.size := by simp
  go_wp2
  generalize w.alloc (.cells #[.bool n.leaf, .slice a n.recs.length c, .slice a' n.kids.length c'] 25) = W at *
  go_loop [18] (fun i => ∃ j : Nat, j ≤ n.recs.length ∧ i = .int .i64 (j : Int) ∧ Hid (∀ i (h : i < j) (h' : i < n.recs.length), n.recs[i].size ≤ 1000)) (fun i => n.recs.length - (intOf i).toNat)
  case atStart => exact ⟨0, Nat.zero_le _, rfl, fun i h => by omega⟩
  case round =>
    obtain ⟨j, hj, rfl, HI⟩ := hrel
    by_cases hlt : j < n.recs.length
    · obtain ⟨b, o, rfl, hb, hc⟩ := HR.out.str j hlt
      have HE : Hid (n.recs[j] ∈ n.recs) := List.getElem_mem hlt
      have HD : Hid (∀ i (h : i < j + 1) (h' : i < n.recs.length), n.recs[j].size ≤ 1000 → n.recs[i].size ≤ 1000) := fun i h h' hs => by
        by_cases e : i = j
        · subst e; exact hs
        · exact HI.out i (by omega) h'
      have hlt' : (j : Int) < (n.recs.length : Int) := by omega
      generalize n.recs[j] = s at *
      by_cases hs : 1000 < s.size
      · have hs' : (1000 : Int) < (s.size : Int) := by omega
        go_wp2
        go_ret
        refine ⟨ret_bool ?_, HB⟩
        have : n.recs.any (fun s => decide (1000 < s.size)) = true := List.any_eq_true.2 ⟨s, HE.out, by simpa using hs⟩
        simp [greatB, this]
      · have hs' : (s.size : Int) ≤ 1000 := by omega
        go_wp2
        go_round
        case rel => exact ⟨j + 1, hlt, by go_num, fun i h h' => HD.out i h h' (by omega)⟩
        case measure => simp [intOf]; omega
    · have hlt' : (n.recs.length : Int) ≤ (j : Int) := by omega
      go_wp2
      go_ret
      refine ⟨ret_bool ?_, HB⟩
      have : n.recs.any (fun s => decide (1000 < s.size)) = false := List.any_eq_false.2 fun s hs => by
        obtain ⟨i, hi, rfl⟩ := List.getElem_of_mem hs
        have := HI.out i (by omega) hi
        simp
        omega
      simp [greatB, this]
      omega

set_option maxRecDepth 100000 in
theorem plain_walk {n : No} {a : Option Addr} {c : Nat} {a' : Option Addr} {c' : Nat} {w : World} :
    Calls Try.prog 6 #[nodeV n a c a' c'] w fun e w' => e = .returned (nodeV n a c a' c') ∧ Below w.heap.size w w' := by
  go_enter Try.func6, Try.ntmps6
  unfold nodeV
  go_wp2
  refine bodyPost_ret (v := .agg #[.bool n.leaf, .slice a n.recs.length c, .slice a' n.kids.length c']) (by simp [results, Try.results6, go_sem]) rfl ⟨rfl, ?_⟩
  exact ((Below.refl _ _).alloc (Nat.le_refl _) _).alloc (by simp) _

set_option maxRecDepth 100000 in
set_option maxHeartbeats 400000 in
theorem size_walk {n : No} {a : Option Addr} {c : Nat} {a' : Option Addr} {c' : Nat} {w : World} (hr : NR w n a c a' c') (hs : n.small) :
    Calls Try.prog 14 #[nodeV n a c a' c'] w fun e w' => e = .returned (.int .i64 (n.size : Int)) ∧ Below w.heap.size w w' := by
  have h1 := hs.recs
  have h2 := hs.kids
  have HR : Hid (Rd (w.alloc (.cells #[.bool n.leaf, .slice a n.recs.length c, .slice a' n.kids.length c'] 25)) a c (svs n.recs)) := hr.recs.below (below_alloc _ _)
  clear hr
  go_enter Try.func14, Try.ntmps14
  unfold nodeV
  obtain ⟨b0, b1, b2⟩ := box_cells w (.bool n.leaf) (.slice a n.recs.length c) (.slice a' n.kids.length c') 25
  have HB := below_alloc w (.cells #[.bool n.leaf, .slice a n.recs.length c, .slice a' n.kids.length c'] 25)
  have hz : w.heap.size < (w.alloc (.cells #[.bool n.leaf, .slice a n.recs.length c, .slice a' n.kids.length c'] 25)).heap.size := by simp
  go_wp2
  generalize w.alloc (.cells #[.bool n.leaf, .slice a n.recs.length c, .slice a' n.kids.length c'] 25) = W at *
  go_loop [3, 14] (fun x i => ∃ j : Nat, j ≤ n.recs.length ∧ i = .int .i64 (j : Int) ∧ x = .int .i64 ((3 + 4 * n.kids.length + weigh (n.recs.take j) : Nat) : Int)) (fun _ i => n.recs.length - (intOf i).toNat)
  case atStart => exact ⟨0, Nat.zero_le _, rfl, by simp [weigh]⟩
  case round =>
    obtain ⟨j, hj, rfl, rfl⟩ := hrel
    have hw := weigh_take_le n.recs hs.each h1 j
    by_cases hlt : j < n.recs.length
    · obtain ⟨b, o, rfl, hb, hc⟩ := HR.out.str j hlt
      have HW : Hid _ := weigh_snoc n.recs j hlt
      have hsz := hs.each _ (List.getElem_mem hlt)
      have hlt' : (j : Int) < (n.recs.length : Int) := by omega
      generalize n.recs[j] = s at *
      go_wp2
      go_round
      case rel => exact ⟨j + 1, hlt, by go_num, by rw [HW.out]; go_num⟩
      case measure => simp [intOf]; omega
    · have hlt' : (n.recs.length : Int) ≤ (j : Int) := by omega
      go_wp2
      go_ret
      refine ⟨ret_int ?_, HB⟩
      rw [List.take_of_length_le (by omega)]
      unfold No.size
      omega

set_option maxRecDepth 100000 in
set_option maxHeartbeats 400000 in
theorem weigh_walk {l : List ByteArray} {a : Option Addr} {c : Nat} {w : World} (hr : Rd w a c (svs l)) (h1 : l.length ≤ 1000) (hs : ∀ s ∈ l, s.size ≤ 5000) :
    Calls Try.prog 25 #[.slice a l.length c] w fun e w' => e = .returned (.int .i64 (weigh l : Int)) ∧ w' = w := by
  have HR : Hid (Rd w a c (svs l)) := hr
  clear hr
  go_enter Try.func25, Try.ntmps25
  go_wp2
  go_loop [3, 4] (fun x i => ∃ j : Nat, j ≤ l.length ∧ i = .int .i64 (j : Int) ∧ x = .int .i64 (weigh (l.take j) : Int)) (fun _ i => l.length - (intOf i).toNat)
  case atStart => exact ⟨0, Nat.zero_le _, rfl, by simp [weigh]⟩
  case round =>
    obtain ⟨j, hj, rfl, rfl⟩ := hrel
    have hw := weigh_take_le l hs h1 j
    by_cases hlt : j < l.length
    · obtain ⟨b, o, rfl, hb, hc⟩ := HR.out.str j hlt
      have HW : Hid _ := weigh_snoc l j hlt
      have hsz := hs _ (List.getElem_mem hlt)
      have hlt' : (j : Int) < (l.length : Int) := by omega
      generalize l[j] = s at *
      go_wp2
      go_round
      case rel => exact ⟨j + 1, hlt, by go_num, by rw [HW.out]; go_num⟩
      case measure => simp [intOf]; omega
    · have hlt' : (l.length : Int) ≤ (j : Int) := by omega
      go_wp2
      go_ret
      exact ⟨ret_int (by rw [List.take_of_length_le (by omega)]), rfl⟩

end Go.Proofs.Ytgpahhlmpdnbpaa
