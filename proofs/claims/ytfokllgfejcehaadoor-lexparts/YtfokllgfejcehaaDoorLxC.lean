/-
  Lex: bytes' kinds, and with how many of a kind a text begins (span) of package lex.
-/
import Derived.Test.YtfokllgfejcehaaDoorLxA
import Derived.Below
import Derived.Test.YtfokllgfejcehaaDoorLxB
namespace Go.Proofs.YtfokllgfejcehaaDoor
open Go.RowKit

theorem blank_walk (c : UInt8) (w : World) : Calls Tryd.prog 15 #[.int .u8 (c.toNat : Int)] w fun e w' => e = .returned (.bool (blkB c)) ∧ w' = w := by
  go_enter Tryd.func15, Tryd.ntmps15
  go_wp2
  all_goals (go_ret; exact ⟨ret_bool (by rw [Bool.eq_iff_iff, blkB_iff]; simp; omega), rfl⟩)

theorem capital_walk (c : UInt8) (w : World) : Calls Tryd.prog 36 #[.int .u8 (c.toNat : Int)] w fun e w' => e = .returned (.bool (capB c)) ∧ w' = w := by
  go_enter Tryd.func36, Tryd.ntmps36
  go_wp2
  all_goals (go_ret; exact ⟨ret_bool (by rw [Bool.eq_iff_iff, capB_iff]; simp; omega), rfl⟩)

theorem digit_walk (c : UInt8) (w : World) : Calls Tryd.prog 37 #[.int .u8 (c.toNat : Int)] w fun e w' => e = .returned (.bool (digB c)) ∧ w' = w := by
  go_enter Tryd.func37, Tryd.ntmps37
  go_wp2
  all_goals (go_ret; exact ⟨ret_bool (by rw [Bool.eq_iff_iff, digB_iff]; simp; omega), rfl⟩)

theorem inRun_walk (c : UInt8) (w : World) : Calls Tryd.prog 27 #[.int .u8 (c.toNat : Int)] w fun e w' => e = .returned (.bool (runB c)) ∧ w' = w := by
  cases h1 : capB c <;> cases h2 : digB c
  all_goals
    have HC := capital_walk c w
    have HD := digit_walk c w
    rw [h1] at HC
    rw [h2] at HD
    go_enter Tryd.func27, Tryd.ntmps27
    go_wp2_with (first | (go_at_call 36; refine HC.mono ?_; rintro e w' ⟨rfl, rfl⟩) | (go_at_call 37; refine HD.mono ?_; rintro e w' ⟨rfl, rfl⟩))
    all_goals (go_ret; exact ⟨ret_bool (by rw [Bool.eq_iff_iff]; simp [runB, h1, h2, lowB] <;> omega), rfl⟩)

theorem span_any (gf : FuncId) (p : UInt8 → Bool) (hent : ∀ args w, (callFunc gf args).run Tryd.prog w = .ok (.enter gf args) w) (hp : ∀ (c : UInt8) (w : World), Calls Tryd.prog gf #[.int .u8 (c.toNat : Int)] w fun e w' => e = .returned (.bool (p c)) ∧ w' = w)
    (s : ByteArray) (w : World) (hs : s.size ≤ maxLen) : Calls Tryd.prog 14 #[.string s, .func (.func gf) #[] #[]] w fun e w' => e = .returned (.int .i64 (spanN p s.data.toList)) ∧ w' = w := by
  unfold maxLen at hs
  have HP : Hid _ := hp
  clear hp
  go_enter Tryd.func14, Tryd.ntmps14
  go_wp2
  go_loop [5] (fun i => ∃ k : Nat, k ≤ s.size ∧ i = .int .i64 k ∧ (s.data.toList.take k).all p = true) (fun i => s.size - (intOf i).toNat)
  case atStart => exact ⟨0, Nat.zero_le _, rfl, by simp⟩
  case round =>
    obtain ⟨k, hk, rfl, hall⟩ := hrel
    have HA : Hid _ := hall
    clear hall
    by_cases hlt : k < s.size
    · cases hr : p s[k]
      · have HW := fun w => HP.out s[k] w
        simp only [hr] at HW
        have HR : Hid _ := hr
        clear hr
        go_wp2_with (go_at_fn gf; refine (HW _).mono ?_; rintro e w' ⟨rfl, rfl⟩)
        go_ret
        refine ⟨?_, rfl⟩
        have hsp : spanN p s.data.toList = k := spanN_of (by rw [bsz]; exact hk) HA.out fun c hc => by
          have : s.data.toList[k]? = some s[k] := by rw [List.getElem?_eq_getElem (by simpa using hlt)]; rfl
          rw [this] at hc
          cases hc
          exact HR.out
        rw [hsp]
        rfl
      · have HW := fun w => HP.out s[k] w
        simp only [hr] at HW
        have HR : Hid _ := hr
        clear hr
        go_wp2_with (go_at_fn gf; refine (HW _).mono ?_; rintro e w' ⟨rfl, rfl⟩)
        go_round
        case rel => exact ⟨k + 1, by omega, by go_num, take_all hlt _ HA.out HR.out⟩
        case measure => simp [intOf]; omega
    · go_wp2
      go_ret
      refine ⟨?_, rfl⟩
      have hsp : spanN p s.data.toList = k := spanN_of (by rw [bsz]; exact hk) HA.out fun c hc => by
        have := (List.getElem?_eq_some_iff.1 hc).1
        rw [bsz] at this
        omega
      rw [hsp]
      rfl

theorem ent_blank : ∀ args w, (callFunc 15 args).run Tryd.prog w = .ok (.enter 15 args) w := enters_of Tryd.func15 (by kernel_rfl) rfl
theorem ent_capital : ∀ args w, (callFunc 36 args).run Tryd.prog w = .ok (.enter 36 args) w := enters_of Tryd.func36 (by kernel_rfl) rfl
theorem ent_digit : ∀ args w, (callFunc 37 args).run Tryd.prog w = .ok (.enter 37 args) w := enters_of Tryd.func37 (by kernel_rfl) rfl
theorem ent_inRun : ∀ args w, (callFunc 27 args).run Tryd.prog w = .ok (.enter 27 args) w := enters_of Tryd.func27 (by kernel_rfl) rfl

theorem span_blank (s : ByteArray) (w : World) (hs : s.size ≤ maxLen) : Calls Tryd.prog 14 #[.string s, .func (.func 15) #[] #[]] w fun e w' => e = .returned (.int .i64 (spanN blkB s.data.toList)) ∧ w' = w := span_any _ _ ent_blank blank_walk s w hs
theorem span_capital (s : ByteArray) (w : World) (hs : s.size ≤ maxLen) : Calls Tryd.prog 14 #[.string s, .func (.func 36) #[] #[]] w fun e w' => e = .returned (.int .i64 (spanN capB s.data.toList)) ∧ w' = w := span_any _ _ ent_capital capital_walk s w hs
theorem span_digit (s : ByteArray) (w : World) (hs : s.size ≤ maxLen) : Calls Tryd.prog 14 #[.string s, .func (.func 37) #[] #[]] w fun e w' => e = .returned (.int .i64 (spanN digB s.data.toList)) ∧ w' = w := span_any _ _ ent_digit digit_walk s w hs
theorem span_inRun (s : ByteArray) (w : World) (hs : s.size ≤ maxLen) : Calls Tryd.prog 14 #[.string s, .func (.func 27) #[] #[]] w fun e w' => e = .returned (.int .i64 (spanN runB s.data.toList)) ∧ w' = w := span_any _ _ ent_inRun inRun_walk s w hs
end Go.Proofs.YtfokllgfejcehaaDoor
