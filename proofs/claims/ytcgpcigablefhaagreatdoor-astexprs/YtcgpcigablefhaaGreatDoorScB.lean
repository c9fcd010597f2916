/-
  The document's Name; columns and values in memory.
-/
import Derived.Test.YtcgpcigablefhaaGreatDoorScA
namespace Go.Proofs.YtcgpcigablefhaaGreatDoor
open Go.RowKit

theorem restB_iff (c : Int) : restB c = true ↔ (97 ≤ c ∧ c ≤ 122) ∨ (48 ≤ c ∧ c ≤ 57) ∨ c = 95 := by
  simp [restB, smB, or_assoc]

set_option maxRecDepth 100000 in
set_option maxHeartbeats 1000000 in
theorem rname_walk (s : ByteArray) (w : World) (hs : s.size ≤ maxLen) : Calls Tryz.prog 34 #[.string s] w fun e w' => e = .returned (.bool (nameB s)) ∧ w' = w := by
  unfold maxLen at hs
  by_cases h0 : 0 < s.size
  · by_cases h1 : s.size ≤ 16
    · have HN : Hid (nameB s = (smB (s[0].toNat : Int) && s.data.toList.all (fun c => restB (c.toNat : Int)))) := by simp [nameB, h0, h1, Hid]
      have h0' : ¬ (s.size : Int) < 1 := by omega
      by_cases ha : (s[0].toNat : Int) < 97
      · go_enter Tryz.func34, Tryz.ntmps34
        go_wp2
        go_ret
        exact ⟨ret_bool (by rw [HN.out]; simp [smB]; omega), rfl⟩
      by_cases hb : (122 : Int) < (s[0].toNat : Int)
      · go_enter Tryz.func34, Tryz.ntmps34
        go_wp2
        go_ret
        exact ⟨ret_bool (by rw [HN.out]; simp [smB]; omega), rfl⟩
      have hl : smB (s[0].toNat : Int) = true := by simp [smB]; omega
      have HL : Hid _ := hl
      go_enter Tryz.func34, Tryz.ntmps34
      go_wp2
      go_loop [3] (fun i => ∃ k : Nat, 1 ≤ k ∧ k ≤ s.size ∧ i = .int .i64 k ∧ (s.data.toList.take k).all (fun c => restB (c.toNat : Int)) = true) (fun i => s.size - (intOf i).toNat)
      case atStart => exact ⟨1, Nat.le_refl _, h0, rfl, take_all h0 _ (by simp) (restB_of_sm hl)⟩
      case round =>
        obtain ⟨k, hk1, hk, rfl, hall⟩ := hrel
        clear hl ha hb
        by_cases hlt : k < s.size
        · have HR : Hid (restB (s[k].toNat : Int) = restB (s[k].toNat : Int)) := rfl
          have HS := @take_all s k hlt (fun c => restB (c.toNat : Int)) hall
          have HF := @not_all s k hlt (fun c => restB (c.toNat : Int))
          have HS' : Hid _ := HS
          have HF' : Hid _ := HF
          clear HS HF HR
          go_wp2
          all_goals
            first
              | (go_round
                 case rel => exact ⟨k + 1, by omega, by omega, by go_num, HS'.out ((restB_iff _).2 (by first | omega | (rename_i h; simp at h; omega) | (simp at *; omega)))⟩
                 case measure => simp [intOf]; omega)
              | (go_ret
                 exact ⟨ret_bool (by rw [HN.out, HF'.out (Bool.eq_false_iff.2 (by rw [ne_eq, restB_iff]; first | omega | (rename_i h; simp at h; omega) | (simp at *; omega)))]; simp), rfl⟩)
        · go_wp2
          go_ret
          exact ⟨ret_bool (by rw [HN.out, HL.out, Bool.true_and]; simpa using all_take (k := k) (by omega) _ (by simpa using hall)), rfl⟩
    · have HN : Hid (nameB s = false) := by simp [nameB, h0, h1, Hid]
      have h1' : ¬ (s.size : Int) ≤ 16 := by omega
      have h0' : ¬ (s.size : Int) < 1 := by omega
      go_enter Tryz.func34, Tryz.ntmps34
      go_wp2
      go_ret
      exact ⟨ret_bool (by rw [HN.out]), rfl⟩
  · have HN : Hid (nameB s = false) := by simp [nameB, h0, Hid]
    have h0' : (s.size : Int) < 1 := by omega
    go_enter Tryz.func34, Tryz.ntmps34
    go_wp2
    go_ret
    exact ⟨ret_bool (by rw [HN.out]), rfl⟩

def typB (t : Int) : Bool := decide (1 ≤ t) && decide (t ≤ 3)

theorem isType_walk (t : Int) (w : World) : Calls Tryz.prog 54 #[.int .i64 t] w fun e w' => e = .returned (.bool (typB t)) ∧ w' = w := by
  go_enter Tryz.func54, Tryz.ntmps54
  go_wp2
  all_goals (go_ret; exact ⟨ret_bool (by rw [Bool.eq_iff_iff]; simp [typB]; omega), rfl⟩)
end Go.Proofs.YtcgpcigablefhaaGreatDoor
