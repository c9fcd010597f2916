/-
  The document's Key.
-/
import Derived.Test.YtedlohapoafkjaaDoorCodeE
namespace Go.Proofs.YtedlohapoafkjaaDoor
open Go.RowKit

set_option maxRecDepth 100000 in
set_option maxHeartbeats 1000000 in
theorem rkey_walk (k n : Int) (s : ByteArray) (hr : rightB k n s = true) (hn : fits n = true) (w : World) :
    Calls Tryd.prog 18 #[valV k n s] w fun e w' => e = .returned (.string (strB (keyL k n s))) ∧ Below w.heap.size w w' := by
  by_cases h2 : k = 2
  · subst h2
    rcases right_cases hr with ⟨h, _⟩ | ⟨h, _⟩ | ⟨_, rfl⟩ | ⟨h, _⟩
    · omega
    · omega
    · exact rkey_int n hn w
    · omega
  go_enter Tryd.func18, Tryd.ntmps18
  have B0 := below_alloc w (.cells #[.int .i64 k, .int .i64 n, .string s] 23)
  obtain ⟨_, a0, a1, a2⟩ := boxed_new w k n s 23
  have hz : w.heap.size < (w.alloc (.cells #[.int .i64 k, .int .i64 n, .string s] 23)).heap.size := by simp
  have hf : (w.alloc (.cells #[.int .i64 k, .int .i64 n, .string s] 23)).heap.size = w.heap.size + 1 := by simp
  unfold valV
  rcases right_cases hr with ⟨rfl, rfl, rfl⟩ | ⟨rfl, h01, rfl⟩ | ⟨rfl, rfl⟩ | ⟨rfl, rfl, hs⟩
  · go_wp2
    rw [conv1 _ (w.heap.size + 1) 0 (by simp [go_sem])]
    go_wp2
    go_ret
    exact ⟨rfl, below_on B0 (below_alloc _ _)⟩
  · rcases h01 with rfl | rfl
    · go_wp2
      rw [conv2 _ (w.heap.size + 1) 1 0 (by simp [go_sem]) (by simp [go_sem])]
      go_wp2
      go_ret
      exact ⟨rfl, below_on B0 (below_alloc _ _)⟩
    · go_wp2
      rw [conv2 _ (w.heap.size + 1) 1 1 (by simp [go_sem]) (by simp [go_sem])]
      go_wp2
      go_ret
      exact ⟨rfl, below_on B0 (below_alloc _ _)⟩
  · exact absurd rfl h2
  · go_wp2
    have hO := owns_new (w.heap.size + 1) (w.alloc (.cells #[.int .i64 3, .int .i64 0, .string s] 23)) (by simp) [3] (by decide)
    have hB := (Below.refl (w.heap.size + 1) (w.alloc (.cells #[.int .i64 3, .int .i64 0, .string s] 23))).alloc (by simp) (.cells #[.int .u8 3] 5)
    generalize w.alloc (.cells #[.int .i64 3, .int .i64 0, .string s] 23) = W at *
    clear a0 a1 hn hr
    go_loopw [3, 4] (fun v i wr => ∃ j : Nat, j ≤ s.size ∧ i = .int .i64 j ∧ Owns (w.heap.size + 1) wr v (3 :: each 0 [0, 255] (s.data.toList.take j)) ∧ Below (w.heap.size + 1) W wr) (fun _ i _ => s.size - (intOf i).toNat)
    case atStart => exact ⟨0, Nat.zero_le _, rfl, by rw [hf] at hO; exact hO, hB⟩
    case round =>
      obtain ⟨j, hj, rfl, O, B⟩ := hrel
      have c2 : wr.cell? ⟨w.heap.size, 2, none⟩ = some (.string s) := by rw [B.cell (by simp)]; exact a2
      have hw : w.heap.size + 1 ≤ wr.heap.size := by have := B.size; omega
      have hel := each_length 0 [0, 255] (s.data.toList.take j) (by decide)
      have htl : (s.data.toList.take j).length ≤ s.size := Nat.le_trans (List.length_take_le _ _) hj
      have HO : Hid _ := O
      have HB : Hid _ := B
      clear O B hO hB
      by_cases hlt : j < s.size
      · have HE : Hid _ := each_snoc (s.data.toList.take j) s[j]
        have HT : Hid _ := take_snoc s j hlt
        cases hc0 : (s[j] == 0)
        · have hi0 : ((s[j].toNat : Int) == 0) = false := by
            rw [beq_eq_false_iff_ne] at hc0 ⊢
            intro e
            exact hc0 (UInt8.toNat_inj.1 (by simpa using e))
          have HE' : Hid (3 :: each 0 [0, 255] (s.data.toList.take (j + 1)) = 3 :: each 0 [0, 255] (s.data.toList.take j) ++ [s[j]]) := by
            show _ = _
            rw [HT.out, HE.out, hc0]
            rfl
          clear hc0 HE HT
          go_wp2_with (first
            | (at_builtin; refine wpList_append_bytes rfl _ _ rfl rfl (w.heap.size + 1) W _ _ rfl (owns_alloc HO.out _) (HB.out.alloc hw _) (by simp; omega) (Nat.le_trans hw (Nat.le_of_lt (by simp))) wr.heap.size [s[j]] 1 1 rfl (by simp) rfl (one_new _ _ _ rfl _) ?_; intro v1 w1 O1 B1; have HO1 : Hid _ := O1; have HB1 : Hid _ := B1; clear O1 B1; have c2' : w1.cell? ⟨w.heap.size, 2, none⟩ = some (.string s) := (by rw [HB1.out.cell (by simp)]; exact a2))
            | go_in)
          exact ⟨⟨j + 1, hlt, by go_num, by rw [HE'.out]; exact HO1.out, HB1.out⟩, by simp [intOf]; omega⟩
        · have hi0 : ((s[j].toNat : Int) == 0) = true := by
            rw [beq_iff_eq] at hc0 ⊢
            rw [hc0]; rfl
          have HE' : Hid (3 :: each 0 [0, 255] (s.data.toList.take (j + 1)) = 3 :: each 0 [0, 255] (s.data.toList.take j) ++ [s[j]] ++ [255]) := by
            show _ = _
            rw [HT.out, HE.out, hc0]
            rw [beq_iff_eq] at hc0
            rw [hc0]
            simp
          clear hc0 HE HT
          go_wp2_with (first
            | (at_builtin; refine wpList_append_bytes rfl _ _ rfl rfl (w.heap.size + 1) W _ _ rfl (owns_alloc HO.out _) (HB.out.alloc hw _) (by simp; omega) (Nat.le_trans hw (Nat.le_of_lt (by simp))) wr.heap.size [s[j]] 1 1 rfl (by simp) rfl (one_new _ _ _ rfl _) ?_; intro v1 w1 O1 B1; have HO1 : Hid _ := O1; have HB1 : Hid _ := B1; clear O1 B1; have c2' : w1.cell? ⟨w.heap.size, 2, none⟩ = some (.string s) := (by rw [HB1.out.cell (by simp)]; exact a2); have hw1 : w.heap.size + 1 ≤ w1.heap.size := (by have := HB1.out.size; omega))
            | (at_builtin; refine wpList_append_bytes rfl _ _ rfl rfl (w.heap.size + 1) W _ _ rfl (owns_alloc HO1.out _) (HB1.out.alloc hw1 _) (by simp; omega) (Nat.le_trans hw1 (Nat.le_of_lt (by simp))) w1.heap.size [255] 1 1 rfl (by simp) rfl (one_new _ _ _ rfl _) ?_; intro v2 w2 O2 B2; have HO2 : Hid _ := O2; have HB2 : Hid _ := B2; clear O2 B2)
            | go_in)
          exact ⟨⟨j + 1, hlt, by go_num, by rw [HE'.out]; exact HO2.out, HB2.out⟩, by simp [intOf]; omega⟩
      · have hjs : j = s.size := by omega
        subst hjs
        have ht : s.data.toList.take s.size = s.data.toList := List.take_of_length_le (Nat.le_refl _)
        rw [ht] at HO hel
        have hsl : s.data.toList.length ≤ 24 := hs
        go_wp2_with (first
          | (at_builtin; refine wpList_append_bytes rfl _ _ rfl rfl (w.heap.size + 1) W _ _ rfl (owns_alloc HO.out _) (HB.out.alloc hw _) (by simp; omega) (Nat.le_trans hw (Nat.le_of_lt (by simp))) wr.heap.size [0, 1] 2 2 rfl (by simp) rfl (two_new _ _ _ _ _ rfl rfl _) ?_; intro v1 w1 O1 B1; have HO1 : Hid _ := O1; have HB1 : Hid _ := B1; clear O1 B1)
          | go_in)
        rw [conv_own HO1.out]
        go_wp2
        go_ret
        exact ⟨rfl, B0.trans (HB1.out.mono (by omega))⟩
end Go.Proofs.YtedlohapoafkjaaDoor
