/-
  The walk of CodeOrders.
-/
import Derived.Laws.Cover1
import Derived.Test.YtedlohapoafkjaaDoorCtx2
import Derived.Test.YtedlohapoafkjaaDoorQuietB3
import Derived.Test.YtedlohapoafkjaaDoorOrdK
namespace Go.Proofs.YtedlohapoafkjaaDoor
open Go.RowKit

theorem bytesLess_lt (x : List UInt8) : ∀ y, Op.bytesLess x y = decide (x < y) := by
  induction x with
  | nil => intro y; cases y <;> simp [Op.bytesLess]
  | cons a x ih =>
    intro y
    cases y with
    | nil => simp [Op.bytesLess]
    | cons b y =>
      rw [Op.bytesLess, ih, Bool.eq_iff_iff]
      simp [List.cons_lt_cons_iff]

theorem strB_toList (l : List UInt8) : (strB l).toList = l := by rw [ByteArray.toList_eq]; rfl

theorem bytesLess_irrefl (l : List UInt8) : Op.bytesLess l l = false := by
  rw [bytesLess_lt]; exact decide_eq_false (List.lt_irrefl l)

theorem signL_alt (x y : List UInt8) : signL x y = if Op.bytesLess x y then -1 else if x == y then 0 else 1 := by
  rw [bytesLess_lt]
  unfold signL
  by_cases h1 : x < y
  · simp [h1]
  · by_cases h2 : y < x
    · have h3 : (x == y) = false := by
        rw [beq_eq_false_iff_ne]; intro e; rw [e] at h2; exact List.lt_irrefl _ h2
      rw [h3]; simp [h1, h2]
    · have h3 : x = y := List.le_antisymm (List.not_lt.1 h2) (List.not_lt.1 h1)
      subst h3
      rw [if_neg h1, if_neg h1, decide_eq_false h1, beq_self_eq_true]
      rfl

theorem sign_alt (x y : ByteArray) : signL x.data.toList y.data.toList = if Op.bytesLess x.toList y.toList then -1 else if x.toList == y.toList then 0 else 1 := by
  rw [ByteArray.toList_eq, ByteArray.toList_eq]; exact signL_alt _ _

theorem sign_walk (x y : ByteArray) (w : World) : Calls Tryd.prog 20 #[.string x, .string y] w fun e w' => e = .returned (.int .i64 (signL x.data.toList y.data.toList)) ∧ w' = w := by
  have HE : Hid _ := sign_alt x y
  go_enter Tryd.func20, Tryd.ntmps20
  cases h1 : Op.bytesLess x.toList y.toList <;> cases h2 : (x.toList == y.toList)
  all_goals
    go_wp2
    go_ret
    refine ⟨?_, rfl⟩
    rw [HE.out, h1]
    first | rfl | (rw [h2]; rfl)

theorem rorder_walk (k n : Int) (s : ByteArray) (k' n' : Int) (s' : ByteArray) (w : World) : Calls Tryd.prog 21 #[valV k n s, valV k' n' s'] w fun e w' => e = .returned (.int .i64 (ordL k n s.data.toList k' n' s'.data.toList)) ∧ Below w.heap.size w w' := by
  have he := sign_alt s s'
  go_enter Tryd.func21, Tryd.ntmps21
  have HE : Hid _ := he
  clear he
  unfold valV
  go_wp2
  all_goals (go_ret; refine ⟨?_, ((Below.refl _ _).alloc (Nat.le_refl _) _).alloc (by simp) _⟩; unfold ordL; rw [HE.out]; simp_all [or3, Lib.compareInt, bytesLess_irrefl])
  all_goals (repeat' split) <;> omega

/-- The Bools of the last test, decided: unlike keys, none a beginning of the other. -/
theorem orders_cases {k n : Int} {s : ByteArray} {k' n' : Int} {s' : ByteArray} (h : rightB k n s = true) (hn : fits n = true) (h' : rightB k' n' s' = true) (hn' : fits n' = true) :
    ((k == k') = true ∧ (n == n') = true ∧ (s.toList == s'.toList) = true) ∨
    (((k == k') = false ∨ ((k == k') = true ∧ (n == n') = false) ∨ ((k == k') = true ∧ (n == n') = true ∧ (s.toList == s'.toList) = false)) ∧ (((strB (keyL k' n' s')).extract 0 (strB (keyL k n s)).size).toList == (strB (keyL k n s)).toList) = false) := by
  by_cases he : k = k' ∧ n = n' ∧ s.data.toList = s'.data.toList
  · left
    rw [beq_iff_eq, beq_iff_eq, beq_iff_eq, ByteArray.toList_eq, ByteArray.toList_eq]
    exact he
  · right
    refine ⟨?_, ?_⟩
    · rw [beq_eq_false_iff_ne, beq_eq_false_iff_ne, beq_eq_false_iff_ne, beq_iff_eq, beq_iff_eq, ByteArray.toList_eq, ByteArray.toList_eq]
      by_cases h1 : k = k'
      · by_cases h2 : n = n'
        · exact Or.inr (Or.inr ⟨h1, h2, fun e => he ⟨h1, h2, e⟩⟩)
        · exact Or.inr (Or.inl ⟨h1, h2⟩)
      · exact Or.inl h1
    · rw [beq_eq_false_iff_ne, extract_take, strB_toList, strB_toList, strB_list]
      intro e
      refine he ((key_prefix h hn h' hn' []).1 ?_)
      rw [List.append_nil, List.prefix_iff_eq_take]
      exact e.symm

set_option maxRecDepth 100000 in
set_option maxHeartbeats 4000000 in
theorem orders_walk (k n : Int) (s : ByteArray) (k' n' : Int) (s' : ByteArray) (hn : fits n = true) (hn' : fits n' = true) (m : Int) (w : World) (hl : 1 < w.heap.size) (hm : w.cell? ⟨1, 0, none⟩ = some (.int .i64 m)) :
    Calls Tryd.prog 6 #[valV k n s, valV k' n' s'] w fun e w' => e = .returned (.bool true) ∧ Below w.heap.size w w' := by
  go_enter Tryd.func6, Tryd.ntmps6
  have C := ctx2_start w k n s k' n' s' m hl hm
  clear hl hm
  unfold valV
  go_wp2_with fail
  refine (awake_walk m _ C.hl C.hm).mono ?_
  rintro e w1 ⟨rfl, hb⟩
  replace C := C.step hb
  clear hb
  obtain ⟨a0, a1, a2, b0, b1, b2⟩ := C.cells
  go_wp2_with fail
  refine (rright_walk k n s _).mono ?_
  rintro e w2 ⟨rfl, hb⟩
  replace C := C.step hb
  clear hb a0 a1 a2 b0 b1 b2
  obtain ⟨a0, a1, a2, b0, b1, b2⟩ := C.cells
  cases r1 : rightB k n s
  · go_wp2
    go_ret
    exact ⟨rfl, C.B⟩
  go_wp2_with fail
  refine (rright_walk k' n' s' _).mono ?_
  rintro e w3 ⟨rfl, hb⟩
  replace C := C.step hb
  clear hb a0 a1 a2 b0 b1 b2
  obtain ⟨a0, a1, a2, b0, b1, b2⟩ := C.cells
  cases r2 : rightB k' n' s'
  · go_wp2
    go_ret
    exact ⟨rfl, C.B⟩
  go_wp2_with fail
  refine (key_walk k n s hn m _ C.hl C.hm).mono ?_
  rintro e w4 ⟨rfl, hb⟩
  replace C := C.step hb
  clear hb a0 a1 a2 b0 b1 b2
  obtain ⟨a0, a1, a2, b0, b1, b2⟩ := C.cells
  rw [show keyS k n s = strB (keyL k n s) by unfold keyS; rw [r1]; rfl]
  go_wp2_with fail
  refine (key_walk k' n' s' hn' m _ C.hl C.hm).mono ?_
  rintro e w5 ⟨rfl, hb⟩
  replace C := C.step hb
  clear hb a0 a1 a2 b0 b1 b2
  rw [show keyS k' n' s' = strB (keyL k' n' s') by unfold keyS; rw [r2]; rfl]
  have HC : Hid _ := orders_cases r1 hn r2 hn'
  have HS : ∀ w, Calls Tryd.prog 20 #[.string (strB (keyL k n s)), .string (strB (keyL k' n' s'))] w fun e w' => e = .returned (.int .i64 (ordL k n s.data.toList k' n' s'.data.toList)) ∧ Below w.heap.size w w' := fun w => (sign_walk _ _ w).mono fun e w' ⟨h1, h2⟩ => by
    subst h2
    refine ⟨?_, Below.refl _ _⟩
    rw [h1, strB_list, strB_list, key_order r1 hn r2 hn']
  have HR : ∀ w, Calls Tryd.prog 21 #[.agg #[.int .i64 k, .int .i64 n, .string s], .agg #[.int .i64 k', .int .i64 n', .string s']] w fun e w' => e = .returned (.int .i64 (ordL k n s.data.toList k' n' s'.data.toList)) ∧ Below w.heap.size w w' := fun w => rorder_walk k n s k' n' s' w
  obtain ⟨i0, i1, i2⟩ := C.A.all
  obtain ⟨j0, j1, j2⟩ := C.D.all
  generalize strB (keyL k n s) = x at *
  generalize strB (keyL k' n' s') = y at *
  generalize ordL k n s.data.toList k' n' s'.data.toList = o at *
  go_wp2
  refine wp_region_below (by kernel_rfl) (by kernel_rfl) (fun _ => ?_)
  repeat (go_big_quiet_step (first | (go_at_call 20; exact quiet_of_below (HS _)) | (go_at_call 21; exact quiet_of_below (HR _))))
  refine wpQuiet_nil ?_
  rintro _ ⟨q, rfl⟩
  replace C := C.step q.below
  clear i0 i1 i2 j0 j1 j2 HS HR
  obtain ⟨a0, a1, a2, b0, b1, b2⟩ := C.cells
  rcases HC.out with ⟨c3, c4, c5⟩ | ⟨c3 | ⟨c3, c4⟩ | ⟨c3, c4, c5⟩, c6⟩
  · go_wp2
    go_ret
    exact ⟨rfl, C.B⟩
  all_goals
    by_cases hz : x.size ≤ y.size
    · go_wp2
      go_ret
      exact ⟨rfl, C.B⟩
    · go_wp2
      go_ret
      exact ⟨rfl, C.B⟩
end Go.Proofs.YtedlohapoafkjaaDoor
