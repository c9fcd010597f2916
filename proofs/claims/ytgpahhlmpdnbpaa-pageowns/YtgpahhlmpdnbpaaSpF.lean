/-
  The document's side and Cut.
-/
import Derived.Test.YtgpahhlmpdnbpaaSpC
namespace Go.Proofs.Ytgpahhlmpdnbpaa
open Go.RowKit

theorem weigh_wts (m : Nat) (l : List ByteArray) : weigh l + m * l.length = (wts (4 + m) l).sum := by
  induction l with
  | nil => simp [weigh, wts]
  | cons s l ih =>
    unfold weigh wts at ih ⊢
    simp only [List.map_cons, List.sum_cons, List.length_cons]
    rw [Nat.mul_add]
    omega

theorem weigh_take (m : Nat) (l : List ByteArray) (k : Nat) (hk : k ≤ l.length) : weigh (l.take k) + m * k = sumN (4 + m) l k := by
  have := weigh_wts m (l.take k)
  rw [List.length_take, Nat.min_eq_left hk] at this
  rw [this]
  unfold sumN wts
  rw [List.map_take]

theorem weigh_drop (m : Nat) (l : List ByteArray) (k : Nat) : weigh (l.drop k) + m * (l.length - k) = (wts (4 + m) l).sum - sumN (4 + m) l k := by
  have := weigh_wts m (l.drop k)
  rw [List.length_drop] at this
  rw [this]
  have h := sum_parts (wts (4 + m) l) k
  unfold sumN
  have e : wts (4 + m) (l.drop k) = (wts (4 + m) l).drop k := by unfold wts; rw [List.map_drop]
  rw [e]
  omega

/-- How heavy the heavier side is; -1: one of them has nothing. -/
def sideI (n : No) (k : Nat) : Int := if n.leaf then (heavy 4 0 n.recs k : Int) else if k + 1 < n.recs.length then (heavy 8 1 n.recs k : Int) else -1

set_option maxRecDepth 100000 in
set_option maxHeartbeats 2000000 in
theorem side_walk {n : No} {a : Option Addr} {c : Nat} {a' : Option Addr} {c' : Nat} {w : World} (hr : NR w n a c a' c') (hs : n.small) (k : Nat) (hk1 : 1 ≤ k) (hk2 : k < n.recs.length) {x : Int} (hx : x = (k : Int)) :
    Calls Try.prog 17 #[nodeV n a c a' c', .int .i64 x] w fun e w' => e = .returned (.int .i64 (sideI n k)) ∧ Below w.heap.size w w' := by
  subst hx
  have h1 := hs.recs
  obtain ⟨b, o, rfl, hb, hc0⟩ := hr.recs.str k hk2
  clear hc0
  have hcap : n.recs.length ≤ c := by have := hr.recs.1; rwa [svs_length] at this
  have hcm := hr.recs.2.1
  unfold maxLen at hcm
  have HX : Hid (Bx w n (some ⟨b, o, none⟩) c a' c' (w.alloc (.cells #[.bool n.leaf, .slice (some ⟨b, o, none⟩) n.recs.length c, .slice a' n.kids.length c'] 27))) := Bx.new _ _ _ _ _ _ _
  have HTK : Hid (Rd w (some ⟨b, o, none⟩) c (svs (n.recs.take k))) := by have := hr.recs.take k; unfold svs at this ⊢; rwa [← List.map_take] at this
  have HDK : Hid (Rd w (some ⟨b, o + k, none⟩) (c - k) (svs (n.recs.drop k))) := by have := hr.recs.drop k; unfold svs at this ⊢; rwa [← List.map_drop] at this
  have HDJ : Hid (Rd w (some ⟨b, o + (k + 1), none⟩) (c - (k + 1)) (svs (n.recs.drop (k + 1)))) := by have := hr.recs.drop (k + 1); unfold svs at this ⊢; rwa [← List.map_drop] at this
  have ht1 : ∀ s ∈ n.recs.take k, s.size ≤ 5000 := fun s h => hs.each s (List.mem_of_mem_take h)
  have ht2 : ∀ j, ∀ s ∈ n.recs.drop j, s.size ≤ 5000 := fun j s h => hs.each s (List.mem_of_mem_drop h)
  have lt1 : (n.recs.take k).length = k := by simp; omega
  have ld1 : ∀ j, (n.recs.drop j).length = n.recs.length - j := fun j => List.length_drop
  have W1 : ∀ w' : World, Below w.heap.size w w' → Calls Try.prog 25 #[.slice (some ⟨b, o, none⟩) k c] w' fun e w'' => e = .returned (.int .i64 (weigh (n.recs.take k) : Int)) ∧ w'' = w' := fun w' hb => by have := weigh_walk (HTK.out.below hb) (by omega) ht1; rwa [lt1] at this
  have W2 : ∀ w' : World, Below w.heap.size w w' → Calls Try.prog 25 #[.slice (some ⟨b, o + k, none⟩) (n.recs.length - k) (c - k)] w' fun e w'' => e = .returned (.int .i64 (weigh (n.recs.drop k) : Int)) ∧ w'' = w' := fun w' hb => by have := weigh_walk (HDK.out.below hb) (by rw [ld1]; omega) (ht2 k); rwa [ld1] at this
  have W3 : ∀ w' : World, Below w.heap.size w w' → Calls Try.prog 25 #[.slice (some ⟨b, o + (k + 1), none⟩) (n.recs.length - (k + 1)) (c - (k + 1))] w' fun e w'' => e = .returned (.int .i64 (weigh (n.recs.drop (k + 1)) : Int)) ∧ w'' = w' := fun w' hb => by have := weigh_walk (HDJ.out.below hb) (by rw [ld1]; omega) (ht2 (k + 1)); rwa [ld1] at this
  have W4 : ∀ (w' : World) (ad : Option Addr) (q : Nat), q ≤ maxLen → Calls Try.prog 25 #[.slice ad 0 q] w' fun e w'' => e = .returned (.int .i64 0) ∧ w'' = w' := fun w' ad q hq => weigh_walk (l := []) ⟨by simp [svs], hq, fun j u h => by simp [svs] at h⟩ (by simp) (by simp)
  have HW1 : Hid _ := W1
  have HW2 : Hid _ := W2
  have HW3 : Hid _ := W3
  have HW4 : Hid _ := W4
  have e1 : Hid (weigh (n.recs.take k) + 0 * k = sumN 4 n.recs k) := weigh_take 0 n.recs k (by omega)
  have e2 : Hid (weigh (n.recs.drop k) + 0 * (n.recs.length - k) = (wts 4 n.recs).sum - sumN 4 n.recs k) := weigh_drop 0 n.recs k
  have e3 : Hid (weigh (n.recs.take k) + 4 * k = sumN 8 n.recs k) := weigh_take 4 n.recs k (by omega)
  have e4 : Hid (weigh (n.recs.drop (k + 1)) + 4 * (n.recs.length - (k + 1)) = (wts 8 n.recs).sum - sumN 8 n.recs (k + 1)) := weigh_drop 4 n.recs (k + 1)
  have g1 : weigh (n.recs.take k) ≤ 5004000 := weigh_take_le n.recs hs.each h1 k
  have g2 : ∀ j, weigh (n.recs.drop j) ≤ 5004000 := fun j => by
    have := weigh_le (n.recs.drop j) (ht2 j)
    rw [ld1] at this
    omega
  have g3 := g2 k
  have g4 := g2 (k + 1)
  clear hr W1 W2 W3 W4 ht1 ht2 HTK HDK HDJ lt1 ld1 g2
  have i1 : (k : Int) ≤ (c : Int) := by omega
  have i2 : (k : Int) ≤ (n.recs.length : Int) := by omega
  have i3 : (n.recs.length : Int) ≤ (c : Int) := by omega
  have i4 : ¬ c = k := by omega
  have i5 : ¬ c - k = 0 := by omega
  go_enter Try.func17, Try.ntmps17
  unfold nodeV
  cases hlf : n.leaf
  · rw [hlf] at HX
    have x0 := HX.out.c0
    rw [hlf] at x0
    have x1 := HX.out.c1
    have xl := HX.out.lt
    have j1 : ((k : Int) + 1).toNat = k + 1 := by omega
    have j2 : (0 : Int) ≤ (k : Int) + 1 := by omega
    have j3 : (k : Int) + 1 ≤ (n.recs.length : Int) := by omega
    by_cases hlast : k + 1 < n.recs.length
    · have i6 : ¬ c = k + 1 := by omega
      have HSI : Hid (sideI n k = (heavy 8 1 n.recs k : Int)) := by show sideI n k = _; unfold sideI; rw [hlf, if_neg (by decide), if_pos hlast]
      have i7 : ((k : Int) == 0) = false := by rw [beq_eq_false_iff_ne]; omega
      have i8 : (((n.recs.length - (k + 1) : Nat) : Int) == 0) = false := by rw [beq_eq_false_iff_ne]; omega
      by_cases hlt : weigh (n.recs.take k) + 4 * k < weigh (n.recs.drop (k + 1)) + 4 * (n.recs.length - (k + 1))
      all_goals
        go_wp2
        generalize w.alloc (.cells #[.bool false, .slice (some ⟨b, o, none⟩) n.recs.length c, .slice a' n.kids.length c'] 27) = W at *
        go_quiet (fail)
        go_wp2_with fail
        refine (HW1.out _ (below_drewN HX.out.below _)).mono ?_
        rintro e w1 ⟨rfl, rfl⟩
        go_wp2_with fail
        refine (HW3.out _ (below_drewN HX.out.below _)).mono ?_
        rintro e w2 ⟨rfl, rfl⟩
        go_wp2
        all_goals
          go_ret
          refine ⟨ret_int ?_, below_drewN HX.out.below _⟩
          rw [HSI.out]
          have := e3.out
          have := e4.out
          unfold heavy
          omega
    · have HSI : Hid (sideI n k = -1) := by show sideI n k = _; unfold sideI; rw [hlf, if_neg (by decide), if_neg hlast]
      have i7 : ((k : Int) == 0) = false := by rw [beq_eq_false_iff_ne]; omega
      have i8 : (((n.recs.length - (k + 1) : Nat) : Int) == 0) = true := by rw [beq_iff_eq]; omega
      have HW5 : Hid (∀ (w' : World) (ad : Option Addr) (q : Nat), q ≤ maxLen → Calls Try.prog 25 #[.slice ad (n.recs.length - (k + 1)) q] w' fun e w'' => e = .returned (.int .i64 0) ∧ w'' = w') := fun w' ad q hq => by
        rw [show n.recs.length - (k + 1) = 0 by omega]
        exact HW4.out w' ad q hq
      clear hlast
      by_cases hcc : c = k + 1
      · subst hcc
        go_wp2
        generalize w.alloc (.cells #[.bool false, .slice (some ⟨b, o, none⟩) n.recs.length (k + 1), .slice a' n.kids.length c'] 27) = W at *
        go_quiet (fail)
        go_wp2_with fail
        refine (HW1.out _ (below_drewN HX.out.below _)).mono ?_
        rintro e w1 ⟨rfl, rfl⟩
        go_wp2_with fail
        refine (HW4.out _ _ _ (by unfold maxLen; omega)).mono ?_
        rintro e w2 ⟨rfl, rfl⟩
        go_wp2
        go_ret
        exact ⟨ret_int HSI.out.symm, below_drewN HX.out.below _⟩
      · go_wp2
        generalize w.alloc (.cells #[.bool false, .slice (some ⟨b, o, none⟩) n.recs.length c, .slice a' n.kids.length c'] 27) = W at *
        go_quiet (fail)
        go_wp2_with fail
        refine (HW1.out _ (below_drewN HX.out.below _)).mono ?_
        rintro e w1 ⟨rfl, rfl⟩
        go_wp2_with fail
        refine (HW5.out _ _ _ (by unfold maxLen; omega)).mono ?_
        rintro e w2 ⟨rfl, rfl⟩
        go_wp2
        go_ret
        exact ⟨ret_int HSI.out.symm, below_drewN HX.out.below _⟩
  · rw [hlf] at HX
    have x0 := HX.out.c0
    rw [hlf] at x0
    have x1 := HX.out.c1
    have xl := HX.out.lt
    have HSI : Hid (sideI n k = (heavy 4 0 n.recs k : Int)) := by show sideI n k = _; unfold sideI; rw [if_pos hlf]
    have i7 : ((k : Int) == 0) = false := by rw [beq_eq_false_iff_ne]; omega
    have i8 : (((n.recs.length - k : Nat) : Int) == 0) = false := by rw [beq_eq_false_iff_ne]; omega
    go_wp2
    generalize w.alloc (.cells #[.bool true, .slice (some ⟨b, o, none⟩) n.recs.length c, .slice a' n.kids.length c'] 27) = W at *
    go_quiet (fail)
    go_wp2_with fail
    refine (HW1.out _ (below_drewN HX.out.below _)).mono ?_
    rintro e w1 ⟨rfl, rfl⟩
    go_wp2_with fail
    refine (HW2.out _ (below_drewN HX.out.below _)).mono ?_
    rintro e w2 ⟨rfl, rfl⟩
    go_wp2
    all_goals
      go_ret
      refine ⟨ret_int ?_, below_drewN HX.out.below _⟩
      rw [HSI.out]
      have := e1.out
      have := e2.out
      unfold heavy
      rw [Nat.add_zero]
      omega
end Go.Proofs.Ytgpahhlmpdnbpaa
