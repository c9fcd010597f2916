/-
  The walk of CodeRanges.
-/
import Derived.Test.YtedlohapoafkjabDoorIdsW
import Derived.Test.YtedlohapoafkjabDoorCtx2
import Derived.Test.YtedlohapoafkjabDoorQuietB3
namespace Go.Proofs.YtedlohapoafkjabDoor
open Go.RowKit

/-- An entry lies between a key and what is above it just if it begins with the key. -/
theorem ranges_bool {k n : Int} {s : ByteArray} {k' n' : Int} {s' : ByteArray} (h : rightB k n s = true) (hn : fits n = true) (h' : rightB k' n' s' = true) (hn' : fits n' = true) (more : List UInt8) :
    (!Op.bytesLess (strB (keyL k' n' s' ++ more)).toList (strB (keyL k n s)).toList && Op.bytesLess (strB (keyL k' n' s' ++ more)).toList (strB (nextL (keyL k n s))).toList) = (k == k' && n == n' && s.toList == s'.toList) := by
  rw [strB_toList, strB_toList, strB_toList, bytesLess_lt, bytesLess_lt, Bool.eq_iff_iff]
  simp only [Bool.and_eq_true, Bool.not_eq_true', decide_eq_true_eq, decide_eq_false_iff_not, beq_iff_eq]
  have h1 := nextL_spec (keyL k n s) (keyL k' n' s' ++ more)
  have h2 := key_prefix h hn h' hn' more
  have h3 := key_next k n s
  rw [ByteArray.toList_eq, ByteArray.toList_eq]
  constructor
  · rintro ⟨a, b⟩
    obtain ⟨c1, c2, c3⟩ := h2.1 (h1.2 ⟨a, Or.inr b⟩)
    exact ⟨⟨c1, c2⟩, c3⟩
  · rintro ⟨⟨a, b⟩, c⟩
    obtain ⟨d1, d2⟩ := h1.1 (h2.2 ⟨a, b, c⟩)
    exact ⟨d1, d2.resolve_left h3⟩

theorem key_size {k n : Int} {s : ByteArray} (h : rightB k n s = true) : (strB (keyL k n s)).size ≤ 60 := by
  show (keyL k n s).length ≤ 60
  rcases right_cases h with ⟨rfl, rfl, rfl⟩ | ⟨rfl, rfl | rfl, rfl⟩ | ⟨rfl, rfl⟩ | ⟨rfl, rfl, hs⟩
  · decide
  · decide
  · decide
  · show (2 :: beL 8 (bias n)).length ≤ 60
    rw [List.length_cons, beL_length]; decide
  · show (3 :: (each 0 [0, 255] s.data.toList ++ [0, 1])).length ≤ 60
    have := each_length 0 [0, 255] s.data.toList (by decide)
    have h2 : s.data.toList.length = s.size := rfl
    simp only [List.length_cons, List.length_append, List.length_nil]
    omega

/-- The Bools of the last test, decided. -/
theorem ranges_cases {c1 c2 ek en es : Bool} (h : (!c1 && c2) = (ek && en && es)) :
    (c1 = false ∧ c2 = true ∧ ek = true ∧ en = true ∧ es = true) ∨ ((c1 = true ∨ (c1 = false ∧ c2 = false)) ∧ (ek = false ∨ (ek = true ∧ en = false) ∨ (ek = true ∧ en = true ∧ es = false))) := by
  revert h
  cases c1 <;> cases c2 <;> cases ek <;> cases en <;> cases es <;> decide

set_option maxRecDepth 100000 in
set_option maxHeartbeats 4000000 in
theorem ranges_walk (k n : Int) (s : ByteArray) (k' n' : Int) (s' : ByteArray) (id : Int) (hn : fits n = true) (hn' : fits n' = true) (m : Int) (w : World) (hl : 0 < w.heap.size) (hm : w.cell? ⟨0, 0, none⟩ = some (.int .i64 m)) :
    Calls Tryd.prog 5 #[valV k n s, valV k' n' s', .int .i64 id] w fun e w' => e = .returned (.bool true) ∧ Below w.heap.size w w' := by
  go_enter Tryd.func5, Tryd.ntmps5
  have C := ctx2_start w k n s k' n' s' m hl hm
  clear hl hm
  unfold valV
  go_wp2_with fail
  refine (awake_walk m _ C.hl C.hm).mono ?_
  rintro e w1 ⟨rfl, hb⟩
  replace C := C.step hb
  clear hb
  obtain ⟨a0, a1, a2, b0, b1, b2⟩ := C.cells
  go_wp2_with fail
  refine (rright_walk k n s _).mono ?_
  rintro e w2 ⟨rfl, hb⟩
  replace C := C.step hb
  clear hb a0 a1 a2 b0 b1 b2
  obtain ⟨a0, a1, a2, b0, b1, b2⟩ := C.cells
  cases r1 : rightB k n s
  · go_wp2
    go_ret
    exact ⟨rfl, C.B⟩
  go_wp2_with fail
  refine (rright_walk k' n' s' _).mono ?_
  rintro e w3 ⟨rfl, hb⟩
  replace C := C.step hb
  clear hb a0 a1 a2 b0 b1 b2
  obtain ⟨a0, a1, a2, b0, b1, b2⟩ := C.cells
  cases r2 : rightB k' n' s'
  · go_wp2
    go_ret
    exact ⟨rfl, C.B⟩
  have hI := ids_of id
  rcases hI with ⟨u, hid, hu, e1, e2, _, _⟩ | ⟨h', _, _⟩
  · have hid0 : 0 ≤ id := by omega
    have hid1 : id ≤ 1099511627776 := by omega
    have E1 : Hid _ := e1
    have E2 : Hid _ := e2
    clear e1 e2 hid
    go_wp2_with fail
    refine (key_walk k n s hn m _ C.hl C.hm).mono ?_
    rintro e w4 ⟨rfl, hb⟩
    replace C := C.step hb
    clear hb a0 a1 a2 b0 b1 b2
    obtain ⟨a0, a1, a2, b0, b1, b2⟩ := C.cells
    rw [show keyS k n s = strB (keyL k n s) by unfold keyS; rw [r1]; rfl]
    go_wp2_with fail
    refine (key_walk k' n' s' hn' m _ C.hl C.hm).mono ?_
    rintro e w5 ⟨rfl, hb⟩
    replace C := C.step hb
    clear hb a0 a1 a2 b0 b1 b2
    obtain ⟨a0, a1, a2, b0, b1, b2⟩ := C.cells
    rw [show keyS k' n' s' = strB (keyL k' n' s') by unfold keyS; rw [r2]; rfl]
    go_wp2_with fail
    refine (id_walk id _).mono ?_
    rintro e w6 ⟨rfl, hb⟩
    replace C := C.step hb
    clear hb a0 a1 a2 b0 b1 b2
    rw [E1.out, E2.out]
    have hR := ranges_bool r1 hn r2 hn' (beL 8 u)
    rw [strB_append] at hR
    have HN : ∀ w, Calls Tryd.prog 11 #[.string (strB (keyL k n s))] w fun e w' => e = .returned (.string (strB (nextL (keyL k n s)))) ∧ Below w.heap.size w w' := fun w => next_walk (strB (keyL k n s)) (by have := key_size r1; unfold maxLen; omega) w
    have HC : Hid _ := ranges_cases hR
    clear hR
    have hz1 := key_size r1
    have hz2 := key_size r2
    have hz3 : (strB (beL 8 u)).size = 8 := by show (beL 8 u).length = 8; exact beL_length _ _
    obtain ⟨i0, i1, i2⟩ := C.A.all
    obtain ⟨j0, j1, j2⟩ := C.D.all
    generalize strB (keyL k n s) = x at *
    generalize strB (keyL k' n' s') = y at *
    generalize strB (nextL (keyL k n s)) = z at *
    generalize strB (beL 8 u) = i at *
    clear E1
    rcases HC.out with ⟨c1, c2, c3, c4, c5⟩ | ⟨c1 | ⟨c1, c2⟩, c3 | ⟨c3, c4⟩ | ⟨c3, c4, c5⟩⟩
    all_goals
      clear HC
      go_wp2
      refine wp_region_below (by kernel_rfl) (by kernel_rfl) (fun _ => ?_)
      repeat (go_big_quiet_step (first | (go_at_call 11; exact quiet_of_below (HN _))))
      refine wpQuiet_nil ?_
      rintro _ ⟨q, rfl⟩
      replace C := C.step q.below
      go_wp2
      go_ret
      exact ⟨rfl, C.B⟩
  · have hI : (¬ (0 ≤ id ∧ id ≤ 1099511627776)) := by omega
    rcases h' with h' | h'
    · go_wp2
      go_ret
      exact ⟨rfl, C.B⟩
    · have h0 : 0 ≤ id := by omega
      go_wp2
      go_ret
      exact ⟨rfl, C.B⟩
end Go.Proofs.YtedlohapoafkjabDoor
