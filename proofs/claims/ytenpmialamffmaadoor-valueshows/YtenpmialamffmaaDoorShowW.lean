/-
  A value as text: Show of package value, and the document's Show.
-/
import Derived.Lib.AppendIntMem
import Derived.Lib.ItoaMem
import Derived.Lib.SmallJoins
import Derived.Test.YtenpmialamffmaaDoorValueF
import Derived.Test.YtenpmialamffmaaDoorDigitsW
namespace Go.Proofs.YtenpmialamffmaaDoor
open Go.RowKit

/-- A text out of a list of bytes. -/
def shB (l : List UInt8) : ByteArray := ⟨l.toArray⟩

theorem shB_append (a b : List UInt8) : shB (a ++ b) = shB a ++ shB b := by
  apply ByteArray.ext
  simp [shB]

/-- The five kinds of right values. -/
theorem right_cases {k n : Int} {s : ByteArray} (h : rightB k n s = true) :
    (k = 0 ∧ n = 0 ∧ s = ⟨#[]⟩) ∨ (k = 1 ∧ (n = 0 ∨ n = 1) ∧ s = ⟨#[]⟩) ∨ (k = 2 ∧ s = ⟨#[]⟩) ∨ (k = 3 ∧ n = 0 ∧ s.size ≤ 24) := by
  have hl : (s.size == 0) = true → s = ⟨#[]⟩ := fun e => by
    have : s.size = 0 := by simpa using e
    apply ByteArray.ext
    exact Array.eq_empty_of_size_eq_zero this
  unfold rightB at h
  split at h
  · rename_i hk
    rw [Bool.and_eq_true, beq_iff_eq] at h
    exact Or.inl ⟨by simpa using hk, h.1, hl h.2⟩
  split at h
  · rename_i hk0 hk
    rw [Bool.and_eq_true, Bool.or_eq_true, beq_iff_eq, beq_iff_eq] at h
    exact Or.inr (Or.inl ⟨by simpa using hk, h.1, hl h.2⟩)
  split at h
  · rename_i hk
    exact Or.inr (Or.inr (Or.inl ⟨by simpa using hk, hl h⟩))
  · simp only [Bool.and_eq_true, beq_iff_eq, decide_eq_true_eq] at h
    exact Or.inr (Or.inr (Or.inr ⟨h.1.1, h.1.2, h.2⟩))

/-- The powers of ten lie where the program lays them. -/
def Tab (w : World) : Prop := Lib.TabIs Tryd.prog w "internal/strconv.uint64pow10" .u64 Lib.pow10Tab

theorem Tab.below {w w' : World} (h : Tab w) (hb : Below w.heap.size w w') : Tab w' := (Lib.tabBelow_of_tabIs h) w' hb

set_option maxRecDepth 100000 in
set_option maxHeartbeats 1000000 in
theorem show_walk (k n : Int) (s : ByteArray) (hr : rightB k n s = true) (hn : fits n = true) (m : Int) (w : World) (hl : 1 < w.heap.size) (hm : w.cell? ⟨1, 0, none⟩ = some (.int .i64 m)) (ht : Tab w) :
    Calls Tryd.prog 16 #[valV k n s] w fun e w' => e = .returned (.string (shB (showL k n s))) ∧ Below w.heap.size w w' := by
  rcases right_cases hr with ⟨rfl, rfl, rfl⟩ | ⟨rfl, rfl | rfl, rfl⟩ | ⟨rfl, rfl⟩ | ⟨rfl, rfl, hs⟩
  · go_enter Tryd.func16, Tryd.ntmps16
    unfold valV
    go_wp2
    go_ret
    exact ⟨rfl, below_alloc _ _⟩
  · go_enter Tryd.func16, Tryd.ntmps16
    unfold valV
    go_wp2
    go_ret
    exact ⟨rfl, below_alloc _ _⟩
  · go_enter Tryd.func16, Tryd.ntmps16
    unfold valV
    go_wp2
    go_ret
    exact ⟨rfl, below_alloc _ _⟩
  · rw [fits_iff] at hn
    have T : Tab (w.alloc (.cells #[.int .i64 2, .int .i64 n, .string ⟨#[]⟩] 29)) := ht.below (below_alloc _ _)
    go_enter Tryd.func16, Tryd.ntmps16
    unfold valV
    go_wp2_with fail
    refine (Tryd.strconv_Itoa n hn.1 hn.2 _ T).mono ?_
    rintro e w1 ⟨rfl, q, os, hw⟩
    have hb : Below w.heap.size w w1 := below_on (below_alloc w (.cells #[.int .i64 2, .int .i64 n, .string ⟨#[]⟩] 29)) (by rw [hw]; exact Lib.below_grow _ _ (Nat.le_refl _) q os)
    clear T ht hw
    go_wp2
    go_ret
    exact ⟨rfl, hb⟩
  · refine (show_text 0 s (by omega) m w hl hm).mono ?_
    rintro e w1 ⟨rfl, hb⟩
    exact ⟨by rw [quote_list]; rfl, hb⟩

theorem each_next (s : ByteArray) (j : Nat) (h : j < s.size) : each 39 [39, 39] (s.data.toList.take (j + 1)) = each 39 [39, 39] (s.data.toList.take j) ++ (if s[j] == 39 then [39, 39] else [s[j]]) := by
  rw [List.take_succ_eq_append_getElem (by simpa using h)]
  simp [each]
  rfl

theorem extract_one (s : ByteArray) (j : Nat) (h : j < s.size) : s.extract j (j + 1) = ⟨#[s[j]]⟩ := by
  apply ByteArray.ext
  apply Array.ext'
  rw [ByteArray.data_extract, Array.toList_extract, List.extract_eq_take_drop]
  rw [List.drop_eq_getElem_cons (show j < s.data.toList.length from h), show j + 1 - j = 1 by omega]
  rfl

set_option maxRecDepth 100000 in
set_option maxHeartbeats 1000000 in
theorem rshow_walk (k n : Int) (s : ByteArray) (hr : rightB k n s = true) (hn : fits n = true) (w : World) :
    Calls Tryd.prog 17 #[valV k n s] w fun e w' => e = .returned (.string (shB (showL k n s))) ∧ Below w.heap.size w w' := by
  rcases right_cases hr with ⟨rfl, rfl, rfl⟩ | ⟨rfl, rfl | rfl, rfl⟩ | ⟨rfl, rfl⟩ | ⟨rfl, rfl, hs⟩
  · go_enter Tryd.func17, Tryd.ntmps17
    unfold valV
    go_wp2
    go_ret
    exact ⟨rfl, below_alloc _ _⟩
  · go_enter Tryd.func17, Tryd.ntmps17
    unfold valV
    go_wp2
    go_ret
    exact ⟨rfl, below_alloc _ _⟩
  · go_enter Tryd.func17, Tryd.ntmps17
    unfold valV
    go_wp2
    go_ret
    exact ⟨rfl, below_alloc _ _⟩
  · go_enter Tryd.func17, Tryd.ntmps17
    unfold valV
    go_wp2_with fail
    refine (digits_walk n hn _).mono ?_
    rintro e w1 ⟨rfl, hb⟩
    replace hb := below_on (below_alloc _ _) hb
    go_wp2
    go_ret
    exact ⟨rfl, hb⟩
  · go_enter Tryd.func17, Tryd.ntmps17
    have B0 := below_alloc w (.cells #[.int .i64 3, .int .i64 0, .string s] 29)
    have a2 : (w.alloc (.cells #[.int .i64 3, .int .i64 0, .string s] 29)).cell? ⟨w.heap.size, 2, none⟩ = some (.string s) := by simp [go_sem]
    unfold valV
    go_wp2
    generalize w.alloc (.cells #[.int .i64 3, .int .i64 0, .string s] 29) = W at *
    go_loop [3, 4] (fun t i => ∃ j : Nat, j ≤ s.size ∧ i = .int .i64 (j : Int) ∧ t = .string (shB (39 :: each 39 [39, 39] (s.data.toList.take j)))) (fun _ i => s.size - (intOf i).toNat)
    case atStart => exact ⟨0, Nat.zero_le _, rfl, rfl⟩
    case round =>
      obtain ⟨j, hj, rfl, rfl⟩ := hrel
      have hel := each_length 39 [39, 39] (s.data.toList.take j) (by decide)
      have htl : (s.data.toList.take j).length ≤ j := List.length_take_le _ _
      have hsz : (shB (39 :: each 39 [39, 39] (s.data.toList.take j))).size ≤ 60 := by
        show (39 :: each 39 [39, 39] (s.data.toList.take j)).length ≤ 60
        simp only [List.length_cons]; omega
      clear hel htl
      by_cases hlt : j < s.size
      · have HN := each_next s j hlt
        have HX : Hid _ := extract_one s j hlt
        have hsl : ∀ W, (Instr.slice 9 (.string s) (some (.int .i64 (j : Int))) (some (.int .i64 ((j : Int) + 1))) none).run Tryd.prog W = .ok (.string ⟨#[s[j]]⟩) W := fun W => by
          rw [run_slice_string W 9 s .i64 .i64 (j : Int) ((j : Int) + 1) Tryd.underlying9 (by omega) (by omega) (by omega)]
          rw [show (j : Int).toNat = j by omega, show ((j : Int) + 1).toNat = j + 1 by omega, HX.out]
        cases hc : (s[j] == 39)
        · rw [hc] at HN
          have hi : ((s[j].toNat : Int) == 39) = false := by
            rw [beq_eq_false_iff_ne] at hc ⊢
            intro e
            exact hc (UInt8.toNat_inj.1 (by simp; omega))
          have HE : Hid (shB (39 :: each 39 [39, 39] (s.data.toList.take (j + 1))) = shB (39 :: each 39 [39, 39] (s.data.toList.take j)) ++ ⟨#[s[j]]⟩) := by
            show _ = _
            rw [HN, ← List.cons_append, shB_append]
            rfl
          clear HN hc
          go_wp2
          exact ⟨⟨j + 1, hlt, by go_num, by rw [HE.out]⟩, by simp [intOf]; omega⟩
        · rw [hc] at HN
          have hi : ((s[j].toNat : Int) == 39) = true := by
            rw [beq_iff_eq] at hc ⊢
            rw [hc]; rfl
          have HE : Hid (shB (39 :: each 39 [39, 39] (s.data.toList.take (j + 1))) = shB (39 :: each 39 [39, 39] (s.data.toList.take j)) ++ ⟨#[s[j]]⟩ ++ ⟨#[39]⟩) := by
            show _ = _
            rw [beq_iff_eq] at hc
            rw [HN, ← List.cons_append, shB_append, hc]
            apply ByteArray.ext
            simp [shB]
          clear HN hc
          go_wp2
          exact ⟨⟨j + 1, hlt, by go_num, by rw [HE.out]⟩, by simp [intOf]; omega⟩
      · have hjs : j = s.size := by omega
        subst hjs
        have ht : s.data.toList.take s.size = s.data.toList := List.take_of_length_le (Nat.le_refl _)
        rw [ht] at hsz ⊢
        have HE : Hid (shB (showL 3 0 s) = shB (39 :: each 39 [39, 39] s.data.toList) ++ ⟨#[39]⟩) := by
          show shB (39 :: (each 39 [39, 39] s.data.toList ++ [39])) = _
          rw [← List.cons_append, shB_append]
          rfl
        go_wp2
        go_ret
        refine ⟨?_, B0⟩
        rw [HE.out]
        rfl
end Go.Proofs.YtenpmialamffmaaDoor
