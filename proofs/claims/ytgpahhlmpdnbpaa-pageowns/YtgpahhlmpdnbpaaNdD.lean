/-
  numbered, sound, Right; the document's Shaped.
-/
import Derived.Test.YtgpahhlmpdnbpaaNdC
namespace Go.Proofs.Ytgpahhlmpdnbpaa
open Go.RowKit

theorem kid_cases (k : Int) : (k < 1 ∧ kidOk k = false) ∨ (1 ≤ k ∧ 4096 < k ∧ kidOk k = false) ∨ (1 ≤ k ∧ k ≤ 4096 ∧ kidOk k = true) := by
  unfold kidOk
  by_cases h1 : k < 1
  · exact Or.inl ⟨h1, by simp; omega⟩
  · by_cases h2 : 4096 < k
    · exact Or.inr (Or.inl ⟨by omega, h2, by simp; omega⟩)
    · exact Or.inr (Or.inr ⟨by omega, by omega, by simp; omega⟩)

theorem kids_of (l : List Int) (h : ∀ i (h : i < l.length), kidOk l[i] = true) : l.all kidOk = true :=
  List.all_eq_true.2 fun k hk => by obtain ⟨i, hi, rfl⟩ := List.getElem_of_mem hk; exact h i hi
theorem kids_not (l : List Int) (i : Nat) (h : i < l.length) (hk : kidOk l[i] = false) : l.all kidOk = false :=
  List.all_eq_false.2 ⟨l[i], List.getElem_mem h, by simp [hk]⟩

set_option maxRecDepth 100000 in
set_option maxHeartbeats 1000000 in
theorem numbered_walk {n : No} {a : Option Addr} {c : Nat} {a' : Option Addr} {c' : Nat} {w : World} (hr : NR w n a c a' c') (hs : n.small) :
    Calls Try.prog 29 #[nodeV n a c a' c'] w fun e w' => e = .returned (.bool (numbB n)) ∧ Below w.heap.size w w' := by
  have h1 := hs.recs
  have h2 := hs.kids
  obtain ⟨b0, b1, b2⟩ := box_cells w (.bool n.leaf) (.slice a n.recs.length c) (.slice a' n.kids.length c') 25
  have HB := below_alloc w (.cells #[.bool n.leaf, .slice a n.recs.length c, .slice a' n.kids.length c'] 25)
  have HR : Hid (Rd (w.alloc (.cells #[.bool n.leaf, .slice a n.recs.length c, .slice a' n.kids.length c'] 25)) a' c' (ivs n.kids)) := hr.kids.below (below_alloc _ _)
  have hz : w.heap.size < (w.alloc (.cells #[.bool n.leaf, .slice a n.recs.length c, .slice a' n.kids.length c'] 25)).heap.size := by simp
  clear hr hs
  cases hlf : n.leaf
  · have HN : Hid (numbB n = (n.kids.all kidOk && n.kids.length == n.recs.length + 1)) := by show numbB n = _; unfold numbB; rw [hlf]; rfl
    go_enter Try.func29, Try.ntmps29
    unfold nodeV
    rw [hlf] at b0 b1 b2 HB HR hz ⊢
    clear hlf
    go_wp2
    generalize w.alloc (.cells #[.bool false, .slice a n.recs.length c, .slice a' n.kids.length c'] 25) = W at *
    go_loop [14] (fun i => ∃ j : Nat, j ≤ n.kids.length ∧ i = .int .i64 (j : Int) ∧ Hid (∀ i (h : i < n.kids.length), i < j → kidOk n.kids[i] = true)) (fun i => n.kids.length - (intOf i).toNat)
    case atStart => exact ⟨0, Nat.zero_le _, rfl, fun i _ h => by omega⟩
    case round =>
      obtain ⟨j, hj, rfl, HI⟩ := hrel
      by_cases hlt : j < n.kids.length
      · obtain ⟨b, o, rfl, hb, hc⟩ := HR.out.int j hlt
        have hlt' : (j : Int) < (n.kids.length : Int) := by omega
        have HK : Hid (kidOk n.kids[j] = false → numbB n = false) := fun h => by rw [HN.out, kids_not n.kids j hlt h]; rfl
        have HS : Hid (kidOk n.kids[j] = true → ∀ i (h : i < n.kids.length), i < j + 1 → kidOk n.kids[i] = true) := fun h i hi hij => by
          by_cases e : i = j
          · subst e; exact h
          · exact HI.out i hi (by omega)
        generalize n.kids[j] = k at *
        rcases kid_cases k with ⟨k1, k2⟩ | ⟨k1, k2, k3⟩ | ⟨k1, k2, k3⟩
        · have hn : Hid _ := HK.out k2
          clear HK HS HI k2 HN
          go_wp2
          go_ret
          exact ⟨ret_bool hn.out.symm, HB⟩
        · have hn : Hid _ := HK.out k3
          clear HK HS HI k3 HN
          go_wp2
          go_ret
          exact ⟨ret_bool hn.out.symm, HB⟩
        · have HT : Hid _ := HS.out k3
          clear HK HS HI k3 HN
          go_wp2
          go_round
          case rel => exact ⟨j + 1, hlt, by go_num, HT⟩
          case measure => simp [intOf]; omega
      · have hlt' : (n.kids.length : Int) ≤ (j : Int) := by omega
        have hn : Hid (numbB n = (n.kids.length == n.recs.length + 1)) := by
          show numbB n = _
          rw [HN.out, kids_of n.kids fun i hi => HI.out i hi (by omega)]
          rfl
        clear HI HN
        go_wp2
        go_ret
        refine ⟨ret_bool ?_, HB⟩
        rw [hn.out, Bool.eq_iff_iff]
        simp
        omega
  · have hn : Hid (numbB n = (n.kids.length == 0)) := by show numbB n = _; unfold numbB; rw [hlf]; rfl
    go_enter Try.func29, Try.ntmps29
    unfold nodeV
    rw [hlf] at b0 b1 b2 HB HR hz ⊢
    clear hlf
    go_wp2
    go_ret
    refine ⟨ret_bool ?_, HB⟩
    rw [hn.out, Bool.eq_iff_iff]
    simp

set_option maxRecDepth 100000 in
set_option maxHeartbeats 400000 in
theorem sound_walk {n : No} {a : Option Addr} {c : Nat} {a' : Option Addr} {c' : Nat} {w : World} (hr : NR w n a c a' c') (hs : n.small) :
    Calls Try.prog 20 #[nodeV n a c a' c'] w fun e w' => e = .returned (.bool n.shaped) ∧ Below w.heap.size w w' := by
  have HB := below_alloc w (.cells #[.bool n.leaf, .slice a n.recs.length c, .slice a' n.kids.length c'] 25)
  have HR : Hid (NR (w.alloc (.cells #[.bool n.leaf, .slice a n.recs.length c, .slice a' n.kids.length c'] 25)) n a c a' c') := hr.below HB
  have HE : Hid (n.shaped = (risesB n.recs && numbB n)) := shaped_eq n
  go_enter Try.func20, Try.ntmps20
  unfold nodeV
  cases hb : risesB n.recs
  · go_wp2_with (first
      | (go_at_call 28; refine (rising_walk HR.out.recs hs.recs).mono ?_; rintro e w1 ⟨rfl, rfl⟩; rw [hb]))
    go_ret
    exact ⟨ret_bool (by rw [HE.out, hb]; rfl), HB⟩
  · go_wp2_with (first
      | (go_at_call 28; refine (rising_walk HR.out.recs hs.recs).mono ?_; rintro e w1 ⟨rfl, rfl⟩; rw [hb])
      | (go_at_call 29; refine (numbered_walk (n := n) (a := a) (c := c) (a' := a') (c' := c') HR.out hs).mono ?_; rintro e w1 ⟨rfl, B1⟩))
    go_ret
    exact ⟨ret_bool (by rw [HE.out, hb]; rfl), below_on HB B1⟩

end Go.Proofs.Ytgpahhlmpdnbpaa
