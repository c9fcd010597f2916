/-
  The walk of ValueOrders.
-/
import Derived.Test.YtmdbbdialciihaaDoorBackW
import Derived.Test.YtmdbbdialciihaaDoorGreatW
import Derived.Test.YtmdbbdialciihaaDoorOrdLaws
namespace Go.Proofs.YtmdbbdialciihaaDoor
open Go.RowKit

/-- Three values boxed. -/
def boxes (w : World) (k n : Int) (s : ByteArray) (k' n' : Int) (s' : ByteArray) (k2 n2 : Int) (s2 : ByteArray) : World := (box2 w k n s k' n' s').alloc (.cells #[.int .i64 k2, .int .i64 n2, .string s2] 23)

/-- Three values, one behind the other, in a new block. -/
theorem valued3 (w : World) (k n : Int) (s : ByteArray) (k' n' : Int) (s' : ByteArray) (k2 n2 : Int) (s2 : ByteArray) (t : TypeId) : Valued (w.alloc (.cells #[.int .i64 k, .int .i64 n, .string s, .int .i64 k', .int .i64 n', .string s', .int .i64 k2, .int .i64 n2, .string s2] t)) w.heap.size 3 := by
  refine ⟨by simp, fun j hj => ?_⟩
  have h : j = 0 ∨ j = 1 ∨ j = 2 := by omega
  rcases h with rfl | rfl | rfl
  · exact ⟨k, n, s, by simp [go_sem], by simp [go_sem], by simp [go_sem]⟩
  · exact ⟨k', n', s', by simp [go_sem], by simp [go_sem], by simp [go_sem]⟩
  · exact ⟨k2, n2, s2, by simp [go_sem], by simp [go_sem], by simp [go_sem]⟩

set_option maxHeartbeats 4000000 in
theorem orders_walk (k n : Int) (s : ByteArray) (k' n' : Int) (s' : ByteArray) (k2 n2 : Int) (s2 : ByteArray) (m : Int) (w : World) (hl : 1 < w.heap.size) (hm : w.cell? ⟨1, 0, none⟩ = some (.int .i64 m)) :
    Calls Tryd.prog 3 #[valV k n s, valV k' n' s', valV k2 n2 s2] w fun e w' => e = .returned (.bool true) ∧ Below w.heap.size w w' := by
  go_enter Tryd.func3, Tryd.ntmps3
  have B0 : Below w.heap.size w (boxes w k n s k' n' s' k2 n2 s2) := below_on (below_box2 w k n s k' n' s') (below_alloc _ _)
  have A := (boxed_fst w k n s k' n' s').below (below_alloc _ (.cells #[.int .i64 k2, .int .i64 n2, .string s2] 23))
  have D := (boxed_snd w k n s k' n' s').below (below_alloc _ (.cells #[.int .i64 k2, .int .i64 n2, .string s2] 23))
  have E := boxed_new (box2 w k n s k' n' s') k2 n2 s2 23
  rw [box3_size] at E
  unfold valV
  go_wp2_with fail
  refine (awake_walk m _ (Nat.lt_of_lt_of_le hl B0.size) (by rw [← hm]; exact B0.cell hl)).mono ?_
  rintro e w1 ⟨rfl, B1⟩
  replace A := A.below B1
  replace D := D.below B1
  replace E := E.below B1
  have B := below_on B0 B1
  clear B0 B1 hl hm
  obtain ⟨_, a0, a1, a2⟩ := id A
  obtain ⟨_, b0, b1, b2⟩ := id D
  obtain ⟨_, c0, c1, c2⟩ := id E
  go_wp2_with fail
  refine (great_walk _ 3 (by decide) _ (valued3 w1 k n s k' n' s' k2 n2 s2 23)).mono ?_
  rintro e w2 ⟨⟨g, rfl⟩, B2⟩
  replace B2 := below_on (below_alloc _ _) B2
  replace A := A.below B2
  replace D := D.below B2
  replace E := E.below B2
  replace B := below_on B B2
  clear a0 a1 a2 b0 b1 b2 c0 c1 c2 B2
  obtain ⟨_, a0, a1, a2⟩ := id A
  obtain ⟨_, b0, b1, b2⟩ := id D
  obtain ⟨_, c0, c1, c2⟩ := id E
  cases g
  · go_wp2
    have V := valued3 w2 k n s k' n' s' k2 n2 s2 23
    have B2 := below_alloc w2 (.cells #[.int .i64 k, .int .i64 n, .string s, .int .i64 k', .int .i64 n', .string s', .int .i64 k2, .int .i64 n2, .string s2] 23)
    replace A := A.below B2
    replace D := D.below B2
    replace E := E.below B2
    replace B := below_on B B2
    clear a0 a1 a2 b0 b1 b2 c0 c1 c2 B2
    generalize hW : w2.alloc (.cells #[.int .i64 k, .int .i64 n, .string s, .int .i64 k', .int .i64 n', .string s', .int .i64 k2, .int .i64 n2, .string s2] 23) = W at *
    have H : Hid _ := V.2
    have hV := V.1
    clear V hW
    go_loopw [22] (fun i wr => ∃ j : Nat, j ≤ 3 ∧ i = .int .i64 j ∧ Below W.heap.size W wr) (fun i _ => 3 - (intOf i).toNat)
    case atStart => exact ⟨0, Nat.zero_le _, rfl, Below.refl _ _⟩
    case round =>
      obtain ⟨j, hj, rfl, L⟩ := hrel
      by_cases hlt : j < 3
      · obtain ⟨x, y, z, q0, q1, q2⟩ := H.out j hlt
        rw [← L.cell hV] at q0 q1 q2
        have N := boxed_new wr x y z 23
        have L2 := below_on L (below_alloc wr (.cells #[.int .i64 x, .int .i64 y, .string z] 23))
        go_wp2
        go_region_with (first
          | (go_at_call 11; refine (right_walk x y z _).mono ?_; rintro e w3 ⟨rfl, B3⟩; replace N := (N.below (below_drew _)).below B3; obtain ⟨_, n0, n1, n2⟩ := id N; replace L2 := below_on (below_on L2 (below_drew _)) B3; clear B3)
          | (go_at_call 12; refine (rright_walk x y z _).mono ?_; rintro e w3 ⟨rfl, B3⟩; replace L2 := below_on L2 B3; clear B3))
        all_goals go_wp2
        all_goals exact ⟨⟨j + 1, hlt, rfl, L2⟩, by simp [intOf]; omega⟩
      · have hj3 : j = 3 := by omega
        subst hj3
        replace A := A.below L
        replace D := D.below L
        replace E := E.below L
        replace B := below_on B L
        clear L
        obtain ⟨_, a0, a1, a2⟩ := id A
        obtain ⟨_, b0, b1, b2⟩ := id D
        obtain ⟨_, c0, c1, c2⟩ := id E
        go_wp2_with fail
        refine (rright_walk k n s _).mono ?_
        rintro e v1 ⟨rfl, B3⟩
        clear a0 a1 a2 b0 b1 b2 c0 c1 c2
        replace A := A.below B3
        replace D := D.below B3
        replace E := E.below B3
        replace B := below_on B B3
        clear B3
        obtain ⟨_, a0, a1, a2⟩ := id A
        obtain ⟨_, b0, b1, b2⟩ := id D
        obtain ⟨_, c0, c1, c2⟩ := id E
        cases r1 : rightB k n s
        · go_wp2
          go_ret
          exact ⟨by simp, B⟩
        go_wp2_with fail
        refine (rright_walk k' n' s' _).mono ?_
        rintro e v2 ⟨rfl, B3⟩
        clear a0 a1 a2 b0 b1 b2 c0 c1 c2
        replace A := A.below B3
        replace D := D.below B3
        replace E := E.below B3
        replace B := below_on B B3
        clear B3
        obtain ⟨_, a0, a1, a2⟩ := id A
        obtain ⟨_, b0, b1, b2⟩ := id D
        obtain ⟨_, c0, c1, c2⟩ := id E
        cases r2 : rightB k' n' s'
        · go_wp2
          go_ret
          exact ⟨by simp, B⟩
        go_wp2_with fail
        refine (rright_walk k2 n2 s2 _).mono ?_
        rintro e v3 ⟨rfl, B3⟩
        clear a0 a1 a2 b0 b1 b2 c0 c1 c2
        replace A := A.below B3
        replace D := D.below B3
        replace E := E.below B3
        replace B := below_on B B3
        clear B3
        obtain ⟨_, a0, a1, a2⟩ := id A
        obtain ⟨_, b0, b1, b2⟩ := id D
        obtain ⟨_, c0, c1, c2⟩ := id E
        cases r3 : rightB k2 n2 s2
        · go_wp2
          go_ret
          exact ⟨by simp, B⟩
        go_wp2_with fail
        refine (order_walk k n s k' n' s' _).mono ?_
        rintro e v4 ⟨rfl, B3⟩
        clear a0 a1 a2 b0 b1 b2 c0 c1 c2
        replace A := A.below B3
        replace D := D.below B3
        replace E := E.below B3
        replace B := below_on B B3
        clear B3
        obtain ⟨_, a0, a1, a2⟩ := id A
        obtain ⟨_, b0, b1, b2⟩ := id D
        obtain ⟨_, c0, c1, c2⟩ := id E
        go_wp2_with fail
        refine (rorder_walk k n s k' n' s' _).mono ?_
        rintro e v5 ⟨rfl, B3⟩
        clear a0 a1 a2 b0 b1 b2 c0 c1 c2
        replace A := A.below B3
        replace D := D.below B3
        replace E := E.below B3
        replace B := below_on B B3
        clear B3
        obtain ⟨_, a0, a1, a2⟩ := id A
        obtain ⟨_, b0, b1, b2⟩ := id D
        obtain ⟨_, c0, c1, c2⟩ := id E
        go_wp2_with fail
        refine (order_walk k' n' s' k n s _).mono ?_
        rintro e v6 ⟨rfl, B3⟩
        clear a0 a1 a2 b0 b1 b2 c0 c1 c2
        replace A := A.below B3
        replace D := D.below B3
        replace E := E.below B3
        replace B := below_on B B3
        clear B3
        obtain ⟨_, a0, a1, a2⟩ := id A
        obtain ⟨_, b0, b1, b2⟩ := id D
        obtain ⟨_, c0, c1, c2⟩ := id E
        have sw := ordI_swap k n s k' n' s'
        have zr := ordI_zero k n s k' n' s'
        have rg := ordI_range k n s k' n' s'
        have tr := ordI_trans k n s k' n' s' k2 n2 s2
        rw [sw]
        generalize ordI k n s k' n' s' = o1 at *
        have hc : ((k == k') = true ∧ (n == n') = true ∧ (s.toList == s'.toList) = true ∧ (o1 == 0) = true) ∨ ((k == k') = false ∧ (o1 == 0) = false) ∨ ((k == k') = true ∧ (n == n') = false ∧ (o1 == 0) = false) ∨ ((k == k') = true ∧ (n == n') = true ∧ (s.toList == s'.toList) = false ∧ (o1 == 0) = false) := by
          simp only [beq_iff_eq, beq_eq_false_iff_ne, ne_eq, zr]
          by_cases h1 : k = k' <;> by_cases h2 : n = n' <;> by_cases h3 : s.toList = s'.toList <;> simp [h1, h2, h3]
        clear zr sw
        rcases hc with ⟨ek, en, es, z⟩ | ⟨ek, z⟩ | ⟨ek, en, z⟩ | ⟨ek, en, es, z⟩
        all_goals
          rcases (by omega : 0 < o1 ∨ o1 ≤ 0) with g | g
          · go_wp2
            go_ret
            exact ⟨by simp, B⟩
          · go_wp2_with fail
            refine (order_walk k' n' s' k2 n2 s2 _).mono ?_
            rintro e v7 ⟨rfl, B3⟩
            clear a0 a1 a2 b0 b1 b2 c0 c1 c2
            replace A := A.below B3
            replace D := D.below B3
            replace E := E.below B3
            replace B := below_on B B3
            clear B3
            obtain ⟨_, a0, a1, a2⟩ := id A
            obtain ⟨_, b0, b1, b2⟩ := id D
            obtain ⟨_, c0, c1, c2⟩ := id E
            replace tr := tr g
            generalize ordI k' n' s' k2 n2 s2 = o2 at *
            rcases (by omega : 0 < o2 ∨ o2 ≤ 0) with g2 | g2
            · go_wp2
              go_ret
              exact ⟨by simp, B⟩
            · replace tr := tr g2
              go_wp2_with fail
              refine (order_walk k n s k2 n2 s2 _).mono ?_
              rintro e v8 ⟨rfl, B3⟩
              replace B := below_on B B3
              go_wp2
              go_ret
              exact ⟨by simp, B⟩
  · go_wp2
    go_ret
    exact ⟨rfl, B⟩
end Go.Proofs.YtmdbbdialciihaaDoor
