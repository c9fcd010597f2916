/-
  The walk of ValueShows.
-/
import Derived.Test.YtenpmialamffmaaDoorShowW
import Derived.Test.YtenpmialamffmaaDoorQuietB
namespace Go.Proofs.YtenpmialamffmaaDoor
open Go.RowKit

/-- What the walk keeps from call to call. -/
structure CtxS (w0 : World) (p : Nat) (k n : Int) (s : ByteArray) (q : Nat) (k' n' : Int) (s' : ByteArray) (m : Int) (W : World) : Prop where
  A : Boxed W p k n s
  D : Boxed W q k' n' s'
  B : Below w0.heap.size w0 W
  hl : 1 < W.heap.size
  hm : W.cell? ⟨1, 0, none⟩ = some (.int .i64 m)
  ht : Tab W

theorem CtxS.step {w0 : World} {p : Nat} {k n : Int} {s : ByteArray} {q : Nat} {k' n' : Int} {s' : ByteArray} {m : Int} {W W' : World} (h : CtxS w0 p k n s q k' n' s' m W) (hb : Below W.heap.size W W') : CtxS w0 p k n s q k' n' s' m W' :=
  ⟨h.A.below hb, h.D.below hb, below_on h.B hb, Nat.lt_of_lt_of_le h.hl hb.size, by rw [hb.cell h.hl]; exact h.hm, h.ht.below hb⟩

theorem CtxS.cells {w0 : World} {p : Nat} {k n : Int} {s : ByteArray} {q : Nat} {k' n' : Int} {s' : ByteArray} {m : Int} {W : World} (h : CtxS w0 p k n s q k' n' s' m W) :
    W.cell? ⟨p, 0, none⟩ = some (.int .i64 k) ∧ W.cell? ⟨p, 1, none⟩ = some (.int .i64 n) ∧ W.cell? ⟨p, 2, none⟩ = some (.string s) ∧
    W.cell? ⟨q, 0, none⟩ = some (.int .i64 k') ∧ W.cell? ⟨q, 1, none⟩ = some (.int .i64 n') ∧ W.cell? ⟨q, 2, none⟩ = some (.string s') :=
  ⟨h.A.2.1, h.A.2.2.1, h.A.2.2.2, h.D.2.1, h.D.2.2.1, h.D.2.2.2⟩

/-- The Bools of the last test, decided. -/
theorem shows_cases {k n : Int} {s : ByteArray} {k' n' : Int} {s' : ByteArray} (h : rightB k n s = true) (h' : rightB k' n' s' = true) :
    ((k == k') = true ∧ (n == n') = true ∧ (s.toList == s'.toList) = true ∧ ((shB (showL k n s)).toList == (shB (showL k' n' s')).toList) = true) ∨
    (((k == k') = false ∨ ((k == k') = true ∧ (n == n') = false) ∨ ((k == k') = true ∧ (n == n') = true ∧ (s.toList == s'.toList) = false)) ∧ ((shB (showL k n s)).toList == (shB (showL k' n' s')).toList) = false) := by
  have hi := show_inj h h'
  have e : ∀ l, (shB l).toList = l := fun l => by rw [ByteArray.toList_eq]; rfl
  rw [e, e]
  by_cases he : k = k' ∧ n = n' ∧ s.toList = s'.toList
  · left
    rw [beq_iff_eq, beq_iff_eq, beq_iff_eq, beq_iff_eq]
    exact ⟨he.1, he.2.1, he.2.2, hi.2 he⟩
  · right
    refine ⟨?_, ?_⟩
    · rw [beq_eq_false_iff_ne, beq_eq_false_iff_ne, beq_eq_false_iff_ne, beq_iff_eq, beq_iff_eq]
      by_cases h1 : k = k'
      · by_cases h2 : n = n'
        · exact Or.inr (Or.inr ⟨h1, h2, fun e => he ⟨h1, h2, e⟩⟩)
        · exact Or.inr (Or.inl ⟨h1, h2⟩)
      · exact Or.inl h1
    · rw [beq_eq_false_iff_ne]
      exact fun e => he (hi.1 e)

/-- What Truth tells of a right value, as the law asks it. -/
theorem truth_cases {k n : Int} {s : ByteArray} (h : rightB k n s = true) :
    (k ≤ 1 ∧ truthE k n = 0 ∧ (k == 1) = false) ∨ (k ≤ 1 ∧ truthE k n = 0 ∧ (k == 1) = true ∧ truthT k n = n) ∨ (¬ k ≤ 1 ∧ truthE k n = 4 ∧ (k == 1) = false) := by
  rcases right_cases h with ⟨rfl, rfl, rfl⟩ | ⟨rfl, rfl | rfl, rfl⟩ | ⟨rfl, rfl⟩ | ⟨rfl, rfl, hs⟩
  · exact Or.inl ⟨by decide, rfl, rfl⟩
  · exact Or.inr (Or.inl ⟨by decide, rfl, rfl, rfl⟩)
  · exact Or.inr (Or.inl ⟨by decide, rfl, rfl, rfl⟩)
  · exact Or.inr (Or.inr ⟨by decide, rfl, rfl⟩)
  · exact Or.inr (Or.inr ⟨by decide, rfl, rfl⟩)

set_option maxRecDepth 100000 in
set_option maxHeartbeats 4000000 in
theorem shows_walk (k n : Int) (s : ByteArray) (k' n' : Int) (s' : ByteArray) (hn : fits n = true) (hn' : fits n' = true) (m : Int) (w : World) (hl : 1 < w.heap.size) (hm : w.cell? ⟨1, 0, none⟩ = some (.int .i64 m)) (ht : Tab w) :
    Calls Tryd.prog 4 #[valV k n s, valV k' n' s'] w fun e w' => e = .returned (.bool true) ∧ Below w.heap.size w w' := by
  go_enter Tryd.func4, Tryd.ntmps4
  have C : CtxS w w.heap.size k n s (w.heap.size + 1) k' n' s' m (box2 w k n s k' n' s') := ⟨boxed_fst w k n s k' n' s', boxed_snd w k n s k' n' s', below_box2 w k n s k' n' s', Nat.lt_of_lt_of_le hl (below_box2 w k n s k' n' s').size, by rw [(below_box2 w k n s k' n' s').cell hl]; exact hm, ht.below (below_box2 w k n s k' n' s')⟩
  clear hl hm ht
  unfold valV
  go_wp2_with fail
  refine (awake_walk m _ C.hl C.hm).mono ?_
  rintro e w1 ⟨rfl, hb⟩
  replace C := C.step hb
  clear hb
  obtain ⟨a0, a1, a2, b0, b1, b2⟩ := C.cells
  go_wp2_with fail
  refine (rright_walk k n s _).mono ?_
  rintro e w2 ⟨rfl, hb⟩
  replace C := C.step hb
  clear hb a0 a1 a2 b0 b1 b2
  obtain ⟨a0, a1, a2, b0, b1, b2⟩ := C.cells
  cases r1 : rightB k n s
  · go_wp2
    go_ret
    exact ⟨rfl, C.B⟩
  go_wp2_with fail
  refine (rright_walk k' n' s' _).mono ?_
  rintro e w3 ⟨rfl, hb⟩
  replace C := C.step hb
  clear hb a0 a1 a2 b0 b1 b2
  obtain ⟨a0, a1, a2, b0, b1, b2⟩ := C.cells
  cases r2 : rightB k' n' s'
  · go_wp2
    go_ret
    exact ⟨rfl, C.B⟩
  go_wp2_with fail
  refine (truth_walk k n s _).mono ?_
  rintro e w4 ⟨rfl, hb⟩
  replace C := C.step hb
  clear hb a0 a1 a2 b0 b1 b2
  obtain ⟨a0, a1, a2, b0, b1, b2⟩ := C.cells
  have HC : Hid _ := shows_cases r1 r2
  have HS : ∀ (k0 n0 : Int) (s0 : ByteArray) (W : World), rightB k0 n0 s0 = true → fits n0 = true → CtxS w w.heap.size k n s (w.heap.size + 1) k' n' s' m W → Calls Tryd.prog 16 #[.agg #[.int .i64 k0, .int .i64 n0, .string s0]] W fun e w' => e = .returned (.string (shB (showL k0 n0 s0))) ∧ Below W.heap.size W w' := fun k0 n0 s0 W h1 h2 c => show_walk k0 n0 s0 h1 h2 m W c.hl c.hm c.ht
  have HR : ∀ W, Calls Tryd.prog 17 #[.agg #[.int .i64 k, .int .i64 n, .string s]] W fun e w' => e = .returned (.string (shB (showL k n s))) ∧ Below W.heap.size W w' := fun W => rshow_walk k n s r1 hn W
  have HT : Hid _ := truth_cases r1
  have ha : ((shB (showL k n s)).toList == (shB (showL k n s)).toList) = true := beq_self_eq_true _
  obtain ⟨i0, i1, i2⟩ := C.A.all
  obtain ⟨j0, j1, j2⟩ := C.D.all
  generalize truthT k n = tt at *
  generalize truthE k n = te at *
  have hnn : (n == n) = true := beq_self_eq_true _
  rcases HT.out with ⟨t1, rfl, t3⟩ | ⟨t1, rfl, t3, rfl⟩ | ⟨t1, rfl, t3⟩
  all_goals
    clear HT
    go_wp2
    rcases HC.out with ⟨c3, c4, c5, c6⟩ | ⟨c3 | ⟨c3, c4⟩ | ⟨c3, c4, c5⟩, c6⟩
    all_goals
      clear HC a0 a1 a2 b0 b1 b2 t1 t3
      refine wp_region_below (by kernel_rfl) (by kernel_rfl) (fun _ => ?_)
      repeat (go_big_quiet_step (first | (go_at_call 17; exact quiet_of_below (HR _)) | (go_at_call 16; exact quiet_of_below (HS _ _ _ _ (by assumption) (by assumption) (C.step (BelowW.below _))))))
      refine wpQuiet_nil ?_
      rintro _ ⟨q, rfl⟩
      replace C := C.step q.below
      go_wp2
      go_ret
      exact ⟨rfl, C.B⟩
end Go.Proofs.YtenpmialamffmaaDoor
