/-
  Lex: the document's class, only, number and sym.
-/
import Derived.Test.YtfokllgfejcehaaDoorLxA
import Derived.Below
namespace Go.Proofs.YtfokllgfejcehaaDoor
open Go.RowKit

theorem ret_intL {a b : Int} (h : a = b) : Ending.returned (.int .i64 a) = .returned (.int .i64 b) := by rw [h]
theorem ihid {p : Prop} (h : p) : Hid p := h

def clsI (c : UInt8) : Int := if capB c then 1 else if lowB c then 2 else if digB c then 3 else if c.toNat = 95 then 4 else if blkB c then 5 else if c.toNat = 39 then 6 else 0

theorem class_walk (c : UInt8) (w : World) : Calls Tryd.prog 17 #[.int .u8 (c.toNat : Int)] w fun e w' => e = .returned (.int .i64 (clsI c)) ∧ w' = w := by
  go_enter Tryd.func17, Tryd.ntmps17
  go_wp2
  all_goals
    go_ret
    refine ⟨ret_intL ?_, rfl⟩
    rw [eq_comm]
    unfold clsI
    simp only [capB, lowB, digB, blkB, Bool.and_eq_true, Bool.or_eq_true, decide_eq_true_eq]
    (repeat' split) <;> first | rfl | (exfalso; omega) | (exfalso; simp at *; omega)

theorem cls_blk (c : UInt8) : (clsI c == 5) = blkB c := by
  rw [Bool.eq_iff_iff, beq_iff_eq]
  unfold clsI
  simp only [capB, lowB, digB, blkB, Bool.and_eq_true, Bool.or_eq_true, decide_eq_true_eq]
  (repeat' split) <;> simp <;> omega

theorem cls_run (c : UInt8) : (decide (1 ≤ clsI c) && decide (clsI c ≤ 4)) = runB c := by
  rw [Bool.eq_iff_iff, runB_iff]
  unfold clsI
  simp only [capB, lowB, digB, blkB, Bool.and_eq_true, Bool.or_eq_true, decide_eq_true_eq]
  (repeat' split) <;> simp <;> omega

theorem cls_quo (c : UInt8) : (clsI c == 6) = decide (c = 39) := by
  have e : c = 39 ↔ c.toNat = 39 := by rw [← UInt8.toNat_inj]; rfl
  rw [Bool.eq_iff_iff, beq_iff_eq, decide_eq_true_eq, e]
  unfold clsI
  simp only [capB, lowB, digB, blkB, Bool.and_eq_true, Bool.or_eq_true, decide_eq_true_eq]
  (repeat' split) <;> simp <;> omega

theorem cls_cap (c : UInt8) : (clsI c == 1) = capB c := by
  rw [Bool.eq_iff_iff, beq_iff_eq, capB_iff]
  unfold clsI
  simp only [capB, lowB, digB, blkB, Bool.and_eq_true, Bool.or_eq_true, decide_eq_true_eq]
  (repeat' split) <;> simp <;> omega

theorem cls_dig (c : UInt8) : (clsI c == 3) = digB c := by
  rw [Bool.eq_iff_iff, beq_iff_eq, digB_iff]
  unfold clsI
  simp only [capB, lowB, digB, blkB, Bool.and_eq_true, Bool.or_eq_true, decide_eq_true_eq]
  (repeat' split) <;> simp <;> omega

set_option maxRecDepth 100000 in
set_option maxHeartbeats 1000000 in
theorem only_walk (k : Int) (q : UInt8 → Bool) (hq : ∀ c, (clsI c == k) = q c) (s : ByteArray) (w : World) (h0 : 0 < s.size) (hs : s.size ≤ 1000000) :
    Calls Tryd.prog 18 #[.string s, .int .i64 k] w fun e w' => e = .returned (.bool (s.data.toList.all q)) ∧ w' = w := by
  have HQ := ihid hq
  clear hq
  go_enter Tryd.func18, Tryd.ntmps18
  go_wp2
  go_loop [5] (fun i => ∃ j : Nat, j ≤ s.size ∧ i = .int .i64 j ∧ (s.data.toList.take j).all q = true) (fun i => s.size - (intOf i).toNat)
  case atStart => exact ⟨0, Nat.zero_le _, rfl, by simp⟩
  case round =>
    obtain ⟨j, hj, rfl, hall⟩ := hrel
    have HA := ihid hall
    clear hall
    by_cases hlt : j < s.size
    · have HC := fun W => class_walk s[j] W
      have hk := HQ.out s[j]
      cases hr : q s[j]
      · rw [hr] at hk
        have HF := ihid (not_all hlt q hr)
        clear hr
        generalize clsI s[j] = m at HC hk
        go_wp2_with (go_at_call 17; refine (HC _).mono ?_; rintro e w' ⟨rfl, rfl⟩)
        go_ret
        exact ⟨ret_bool (by rw [HF.out]), rfl⟩
      · rw [hr] at hk
        have HF := ihid (take_all hlt q HA.out hr)
        clear hr
        generalize clsI s[j] = m at HC hk
        go_wp2_with (go_at_call 17; refine (HC _).mono ?_; rintro e w' ⟨rfl, rfl⟩)
        go_round
        case rel => exact ⟨j + 1, by omega, by go_num, HF.out⟩
        case measure => simp [intOf]; omega
    · have hz : (0 : Int) < s.size := by omega
      go_wp2
      go_ret
      exact ⟨ret_bool (by have h := all_take (k := j) (by omega) q HA.out; simp only [Array.all_toList] at h ⊢; exact h.symm), rfl⟩

theorem num_take {s : ByteArray} {j : Nat} (h : j < s.size) : numF 0 (s.data.toList.take (j + 1)) = numF 0 (s.data.toList.take j) * 10 + (s[j].toNat - 48) := by
  rw [List.take_succ_eq_append_getElem (by rw [bsz]; exact h), numF_append]
  rfl

theorem num_all (s : ByteArray) (j : Nat) : numF 0 (s.data.toList.take (j + 1)) ≤ numL s.data.toList := by
  have e : numL s.data.toList = numF 0 (s.data.toList.take (j + 1) ++ s.data.toList.drop (j + 1)) := by rw [List.take_append_drop]; rfl
  rw [e, numF_append]
  exact numF_ge _ _

/-- What number answers. -/
def numV (n : Nat) : Value := if n < 9223372036854775808 then .tuple #[.int .i64 n, .bool true] else .tuple #[.int .i64 0, .bool false]

set_option maxRecDepth 100000 in
set_option maxHeartbeats 1000000 in
theorem number_walk (s : ByteArray) (w : World) (hs : s.size ≤ 1000000) (hd : s.data.toList.all digB = true) :
    Calls Tryd.prog 19 #[.string s] w fun e w' => e = .returned (numV (numL s.data.toList)) ∧ w' = w := by
  have HD : Hid (∀ j, (h : j < s.size) → 48 ≤ s[j].toNat ∧ s[j].toNat ≤ 57) := fun j h => by
    have h1 := List.all_eq_true.1 hd (s.data.toList[j]'(by rw [bsz]; exact h)) (List.getElem_mem _)
    exact digB_iff.1 h1
  have HA := ihid (fun j (_ : j < s.size) => num_all s j)
  have HT := ihid (fun j (h : j < s.size) => num_take h)
  have HE : Hid (numF 0 (s.data.toList.take s.size) = numL s.data.toList) := by show _ = _; rw [← bsz s, List.take_length]; rfl
  clear hd
  obtain ⟨g, HG⟩ : ∃ g : Nat → Nat, Hid (∀ j, numF 0 (s.data.toList.take j) = g j) := ⟨_, fun _ => rfl⟩
  have H0 : Hid (g 0 = 0) := by show _ = _; rw [← HG.out 0]; rfl
  simp only [HG.out] at HA HT HE
  clear HG
  generalize numL s.data.toList = N at *
  go_enter Tryd.func19, Tryd.ntmps19
  go_wp2
  go_loop [4, 5] (fun n i => ∃ (j : Nat) (a : Int), j ≤ s.size ∧ i = .int .i64 j ∧ n = .int .i64 a ∧ Hid (a = g j ∧ a ≤ 9223372036854775807)) (fun _ i => s.size - (intOf i).toNat)
  case atStart => exact ⟨0, 0, Nat.zero_le _, rfl, rfl, by rw [H0.out]; exact ⟨rfl, by omega⟩⟩
  case round =>
    obtain ⟨j, a, hj, rfl, rfl, HI⟩ := hrel
    by_cases hlt : j < s.size
    · obtain ⟨d, HDe⟩ : ∃ d : Int, Hid (d = (s[j].toNat : Int) - 48 ∧ 0 ≤ d ∧ d ≤ 9) := ⟨_, rfl, by have := (HD.out j hlt).1; omega, by have := (HD.out j hlt).2; omega⟩
      have HT1 := ihid (HT.out j hlt)
      have HA1 := ihid (HA.out j hlt)
      have h1 : wrap64 (s[j].toNat : Int) = (s[j].toNat : Int) := by have := HDe.out; unfold wrap64; omega
      have h2 : wrap64 ((s[j].toNat : Int) - 48) = d := by have := HDe.out; unfold wrap64; omega
      obtain ⟨e, HEe⟩ : ∃ e : Int, Hid (e = 9223372036854775807 - d) := ⟨_, rfl⟩
      have h3 : wrap64 (9223372036854775807 - d) = e := by have := HDe.out; have := HEe.out; unfold wrap64; omega
      obtain ⟨q, HQe⟩ : ∃ q : Int, Hid (q = e / 10) := ⟨_, rfl⟩
      have h4 : wrap64 (e.tdiv 10) = q := by
        have := HDe.out; have := HEe.out; have := HQe.out
        rw [Int.tdiv_eq_ediv_of_nonneg (by omega)]
        unfold wrap64; omega
      by_cases hqa : q < a
      · have HN : Hid (numV N = .tuple #[.int .i64 0, .bool false]) := by
          show _ = _
          have := HDe.out; have := HEe.out; have := HQe.out; have := HI.out; have := HT1.out; have := HA1.out
          rw [numV, if_neg (by omega)]
        go_wp2
        go_ret2
        exact ⟨by rw [HN.out]; rfl, rfl⟩
      · obtain ⟨b, HBe⟩ : ∃ b : Int, Hid (b = a * 10) := ⟨_, rfl⟩
        obtain ⟨c, HCe⟩ : ∃ c : Int, Hid (c = b + d) := ⟨_, rfl⟩
        have h5 : wrap64 (a * 10) = b := by
          have := HDe.out; have := HEe.out; have := HQe.out; have := HI.out; have := HBe.out
          unfold wrap64; omega
        have h6 : wrap64 (b + d) = c := by
          have := HDe.out; have := HEe.out; have := HQe.out; have := HI.out; have := HBe.out; have := HCe.out
          unfold wrap64; omega
        have HX : Hid (c = g (j + 1) ∧ c ≤ 9223372036854775807) := by
          have := HDe.out; have := HEe.out; have := HQe.out; have := HI.out; have := HBe.out; have := HCe.out; have := HT1.out
          exact ⟨by omega, by omega⟩
        go_wp2
        exact ⟨⟨j + 1, c, by omega, by go_num, by rw [h6], HX⟩, by simp [intOf]; omega⟩
    · have hje : j = s.size := by omega
      subst hje
      have HN : Hid (numV N = .tuple #[.int .i64 a, .bool true]) := by
        show _ = _
        have := HI.out; have := HE.out
        rw [numV, if_pos (by omega)]
        rw [show ((N : Nat) : Int) = a by omega]
      go_wp2
      go_ret2
      exact ⟨by rw [HN.out]; rfl, rfl⟩

def oneL : List UInt8 := [60, 62, 61, 43, 45, 42, 40, 41, 44, 46, 59]

theorem pre_two (a b : UInt8) (l : List UInt8) : [a, b].isPrefixOf l = (l.take 2 == [a, b]) := by
  rw [Bool.eq_iff_iff, List.isPrefixOf_iff_prefix, beq_iff_eq, List.prefix_iff_eq_take]
  exact eq_comm

theorem symP_two {l : List UInt8} (h : (l.take 2 == [60, 62]) = true ∨ (l.take 2 == [60, 61]) = true ∨ (l.take 2 == [62, 61]) = true) : (symP l).2 = 2 := by
  rw [← pre_two, ← pre_two, ← pre_two] at h
  unfold symP symsL
  rw [List.find?_cons]
  cases h1 : [60, 62].isPrefixOf l
  · simp only
    rw [List.find?_cons]
    cases h2 : [60, 61].isPrefixOf l
    · simp only
      rw [List.find?_cons]
      cases h3 : [62, 61].isPrefixOf l
      · simp [h1, h2, h3] at h
      · rfl
    · rfl
  · rfl

theorem symP_snd (l : List UInt8) : (symP l).2 = match symsL.find? (fun p => p.isPrefixOf l) with | some p => p.length | none => 0 := by
  unfold symP
  cases symsL.find? (fun p => p.isPrefixOf l) <;> rfl

theorem find_one (c : UInt8) (r : List UInt8) : ∀ q : List UInt8, (match (q.map fun x => [x]).find? (fun p => p.isPrefixOf (c :: r)) with | some p => p.length | none => 0) = if q.contains c then 1 else 0
  | [] => rfl
  | x :: q => by
    rw [List.map_cons, List.find?_cons, List.contains_cons]
    by_cases h : c = x
    · subst h
      simp
    · have h' : ¬ x = c := fun e => h e.symm
      have e1 : [x].isPrefixOf (c :: r) = false := by simp [List.isPrefixOf, h']
      have e2 : (c == x) = false := by simp [h]
      rw [e1, e2]
      simp only [Bool.false_or]
      exact find_one c r q

theorem symP_one {c : UInt8} {r : List UInt8} (h1 : ((c :: r).take 2 == [60, 62]) = false) (h2 : ((c :: r).take 2 == [60, 61]) = false) (h3 : ((c :: r).take 2 == [62, 61]) = false) : (symP (c :: r)).2 = if oneL.contains c then 1 else 0 := by
  rw [← pre_two] at h1 h2 h3
  rw [symP_snd, ← find_one c r oneL]
  have e : symsL = [60, 62] :: [60, 61] :: [62, 61] :: oneL.map fun x => [x] := rfl
  rw [e, List.find?_cons, h1]
  simp only
  rw [List.find?_cons, h2]
  simp only
  rw [List.find?_cons, h3]
end Go.Proofs.YtfokllgfejcehaaDoor
