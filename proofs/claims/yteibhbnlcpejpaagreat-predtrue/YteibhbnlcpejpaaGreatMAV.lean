import Derived.WalkKit
import Derived.Below
import Derived.Test.YteibhbnlcpejpaaGreatProg
set_option maxRecDepth 100000
set_option maxHeartbeats 4000000
namespace Go.Proofs.YteibhbnlcpejpaaGreat
open Go.RowKit
theorem ret_bool {a b: Bool} (h: a = b): Ending.returned (.bool a) = .returned (.bool b) := by rw [h]
def smB (c: Int): Bool := decide (97 <= c) && decide (c <= 122)
def restB (c: Int): Bool := smB c || (decide (48 <= c) && decide (c <= 57)) || decide (c = 95)
theorem letter_walk (c: Int) (w: World): Calls Tryz.prog 185 #[.int .u8 c] w fun e w' => e = .returned (.bool (smB c)) /\ w' = w := by
 go_enter Tryz.func185,Tryz.ntmps185
 go_wp2
 all_goals (go_ret; exact ⟨ret_bool (by rw [Bool.eq_iff_iff]; simp [smB]; omega),rfl⟩)
theorem within_walk (c: Int) (w: World): Calls Tryz.prog 186 #[.int .u8 c] w fun e w' => e = .returned (.bool (restB c)) /\ w' = w := by
 cases hl: smB c
 all_goals
  have HL := letter_walk c w
  rw [hl] at HL
  go_enter Tryz.func186,Tryz.ntmps186
  go_wp2_with (go_at_call 185; refine HL.mono ?_; rintro e w' ⟨rfl,rfl⟩)
  all_goals (go_ret; exact ⟨ret_bool (by rw [Bool.eq_iff_iff]; simp [restB,hl] <;> omega),rfl⟩)
def nameB (s: ByteArray): Bool := if h: 0 < s.size then decide (s.size <= 16) && smB (s[0].toNat: Int) && s.data.toList.all (fun c => restB (c.toNat: Int)) else false
theorem restB_of_sm {c: Int} (h: smB c = true): restB c = true := by simp [restB,h]
theorem toList_isEmpty' (s: ByteArray): s.toList.isEmpty = (s.size == 0) := by
 rw [ByteArray.toList_eq,ByteArray.size, <- Array.length_toList]
 cases s.data.toList <;> simp
theorem take_all {s: ByteArray} {k: Nat} (hk: k < s.size) (p: UInt8 -> Bool) (h: (s.data.toList.take k).all p = true) (hp: p s[k] = true): (s.data.toList.take (k + 1)).all p = true := by
 rw [List.take_succ_eq_append_getElem (by simpa using hk),List.all_append,h]
 have: s.data.toList[k]'(by simpa using hk) = s[k] := rfl
 rw [this]
 simp [hp]
theorem not_all {s: ByteArray} {k: Nat} (hk: k < s.size) (p: UInt8 -> Bool) (hp: p s[k] = false): s.data.toList.all p = false := by
 rw [List.all_eq_false]
 refine ⟨s[k], ?_,by simp [hp]⟩
 have: s.data.toList[k]'(by simpa using hk) = s[k] := rfl
 rw [<- this]; exact List.getElem_mem _
theorem all_take {s: ByteArray} {k: Nat} (hk: s.size <= k) (p: UInt8 -> Bool) (h: (s.data.toList.take k).all p = true): s.data.toList.all p = true := by
 rwa [List.take_of_length_le (by simpa using hk)] at h
theorem name_walk (s: ByteArray) (w: World) (hs: s.size <= maxLen): Calls Tryz.prog 145 #[.string s] w fun e w' => e = .returned (.bool (nameB s)) /\ w' = w := by
 unfold maxLen at hs
 have hemp := toList_isEmpty' s
 by_cases h0: 0 < s.size
 · have he: (s.size == 0) = false := beq_eq_false_iff_ne.2 (by omega)
   rw [he] at hemp
   by_cases h1: s.size <= 16
   · have HN: Hid (nameB s = (smB (s[0].toNat: Int) && s.data.toList.all (fun c => restB (c.toNat: Int)))) := by simp [nameB,h0,h1,Hid]
     cases hl: smB (s[0].toNat: Int)
     · have HL := letter_walk (s[0].toNat: Int) w
       rw [hl] at HL
       go_enter Tryz.func145,Tryz.ntmps145
       go_wp2_with (go_at_call 185; refine HL.mono ?_; rintro e w' ⟨rfl,rfl⟩)
       go_ret
       exact ⟨ret_bool (by rw [HN.out,hl]; rfl),rfl⟩
     · have HL := letter_walk (s[0].toNat: Int) w
       rw [hl] at HL
       go_enter Tryz.func145,Tryz.ntmps145
       go_wp2_with (go_at_call 185; refine HL.mono ?_; rintro e w' ⟨rfl,rfl⟩)
       go_loop [19] (fun i => ∃ k: Nat,k <= s.size /\ i = .int .i64 k /\ (s.data.toList.take k).all (fun c => restB (c.toNat: Int)) = true) (fun i => s.size - (intOf i).toNat)
       case atStart => exact ⟨0,Nat.zero_le _,rfl,by simp⟩
       case round =>
        obtain ⟨k,hk,rfl,hall⟩ := hrel
        by_cases hlt: k < s.size
        · cases hr: restB (s[k].toNat: Int)
          · have HW := within_walk (s[k].toNat: Int)
            simp only [hr] at HW
            go_wp2_with (go_at_call 186; refine (HW _).mono ?_; rintro e w' ⟨rfl,rfl⟩)
            go_ret
            exact ⟨ret_bool (by rw [HN.out,not_all hlt _ hr]; simp),rfl⟩
          · have HW := within_walk (s[k].toNat: Int)
            simp only [hr] at HW
            go_wp2_with (go_at_call 186; refine (HW _).mono ?_; rintro e w' ⟨rfl,rfl⟩)
            go_round
            case rel => exact ⟨k + 1,by omega,by go_num,take_all hlt _ hall hr⟩
            case measure => simp [intOf]; omega
        · go_wp2
          go_ret
          exact ⟨ret_bool (by rw [HN.out,hl,all_take (by omega) _ hall]; rfl),rfl⟩
   · have HN: Hid (nameB s = false) := by simp [nameB,h0,h1,Hid]
     have h1': ¬ (s.size: Int) <= 16 := by omega
     go_enter Tryz.func145,Tryz.ntmps145
     go_wp2
     go_ret
     exact ⟨ret_bool (by rw [HN.out]),rfl⟩
 · have HN: Hid (nameB s = false) := by simp [nameB,h0,Hid]
   have he: (s.size == 0) = true := beq_iff_eq.2 (by omega)
   rw [he] at hemp
   go_enter Tryz.func145,Tryz.ntmps145
   go_wp2
   go_ret
   exact ⟨ret_bool (by rw [HN.out]),rfl⟩
theorem restB_iff (c: Int): restB c = true ↔ (97 <= c /\ c <= 122) \/ (48 <= c /\ c <= 57) \/ c = 95 := by
 simp [restB,smB,or_assoc]
theorem rname_walk (s: ByteArray) (w: World) (hs: s.size <= maxLen): Calls Tryz.prog 66 #[.string s] w fun e w' => e = .returned (.bool (nameB s)) /\ w' = w := by
 unfold maxLen at hs
 by_cases h0: 0 < s.size
 · by_cases h1: s.size <= 16
   · have HN: Hid (nameB s = (smB (s[0].toNat: Int) && s.data.toList.all (fun c => restB (c.toNat: Int)))) := by simp [nameB,h0,h1,Hid]
     have h0': ¬ (s.size: Int) < 1 := by omega
     by_cases ha: (s[0].toNat: Int) < 97
     · go_enter Tryz.func66,Tryz.ntmps66
       go_wp2
       go_ret
       exact ⟨ret_bool (by rw [HN.out]; simp [smB]; omega),rfl⟩
     by_cases hb: (122: Int) < (s[0].toNat: Int)
     · go_enter Tryz.func66,Tryz.ntmps66
       go_wp2
       go_ret
       exact ⟨ret_bool (by rw [HN.out]; simp [smB]; omega),rfl⟩
     have hl: smB (s[0].toNat: Int) = true := by simp [smB]; omega
     have HL: Hid _ := hl
     go_enter Tryz.func66,Tryz.ntmps66
     go_wp2
     go_loop [3] (fun i => ∃ k: Nat,1 <= k /\ k <= s.size /\ i = .int .i64 k /\ (s.data.toList.take k).all (fun c => restB (c.toNat: Int)) = true) (fun i => s.size - (intOf i).toNat)
     case atStart => exact ⟨1,Nat.le_refl _,h0,rfl,take_all h0 _ (by simp) (restB_of_sm hl)⟩
     case round =>
      obtain ⟨k,hk1,hk,rfl,hall⟩ := hrel
      clear hl ha hb
      by_cases hlt: k < s.size
      · have HR: Hid (restB (s[k].toNat: Int) = restB (s[k].toNat: Int)) := rfl
        have HS := @take_all s k hlt (fun c => restB (c.toNat: Int)) hall
        have HF := @not_all s k hlt (fun c => restB (c.toNat: Int))
        have HS': Hid _ := HS
        have HF': Hid _ := HF
        clear HS HF HR
        go_wp2
        all_goals
         first
          | (go_round
             case rel => exact ⟨k + 1,by omega,by omega,by go_num,HS'.out ((restB_iff _).2 (by first | omega | (rename_i h; simp at h; omega) | (simp at *; omega)))⟩
             case measure => simp [intOf]; omega)
          | (go_ret
             exact ⟨ret_bool (by rw [HN.out,HF'.out (Bool.eq_false_iff.2 (by rw [ne_eq,restB_iff]; first | omega | (rename_i h; simp at h; omega) | (simp at *; omega)))]; simp),rfl⟩)
      · go_wp2
        go_ret
        exact ⟨ret_bool (by rw [HN.out,HL.out,Bool.true_and]; simpa using all_take (k := k) (by omega) _ (by simpa using hall)),rfl⟩
   · have HN: Hid (nameB s = false) := by simp [nameB,h0,h1,Hid]
     have h1': ¬ (s.size: Int) <= 16 := by omega
     have h0': ¬ (s.size: Int) < 1 := by omega
     go_enter Tryz.func66,Tryz.ntmps66
     go_wp2
     go_ret
     exact ⟨ret_bool (by rw [HN.out]),rfl⟩
 · have HN: Hid (nameB s = false) := by simp [nameB,h0,Hid]
   have h0': (s.size: Int) < 1 := by omega
   go_enter Tryz.func66,Tryz.ntmps66
   go_wp2
   go_ret
   exact ⟨ret_bool (by rw [HN.out]),rfl⟩
def typB (t: Int): Bool := decide (1 <= t) && decide (t <= 3)
end Go.Proofs.YteibhbnlcpejpaaGreat
