import Derived.Test.YteibhbnlcpejpaaGreatMAE
namespace Go.Proofs.YteibhbnlcpejpaaGreat
open Go.RowKit
def fits (x: Int): Bool := decide (-9223372036854775808 <= x) && decide (x <= 9223372036854775807)
theorem fits_iff (x: Int): fits x = true ↔ -9223372036854775808 <= x /\ x <= 9223372036854775807 := by simp [fits]
def Tells (v: Int) (e: Ending): Prop := ∃ x,e = .returned (.tuple #[.int .i64 x, .bool (fits v)]) /\ (fits v = true -> x = v) /\ fits x = true
theorem tells_of {v x: Int} {b: Bool} (hb: b = fits v) (hx: fits v = true -> x = v) (hf: fits x = true): Tells v (.returned (.tuple #[.int .i64 x, .bool b])) := by
 subst hb; exact ⟨x,rfl,hx,hf⟩
theorem tells_yes {v: Int} (h: fits v = true): Tells v (.returned (.tuple #[.int .i64 v, .bool true])) := ⟨v,by rw [h],fun _ => rfl,h⟩
theorem tells_no {v: Int} (h: fits v = false): Tells v (.returned (.tuple #[.int .i64 0, .bool false])) := ⟨0,by rw [h],fun e => absurd e (by rw [h]; decide),rfl⟩
theorem fits_no (x: Int): fits x = false ↔ x < -9223372036854775808 \/ 9223372036854775807 < x := by
 rw [<- Bool.not_eq_true,fits_iff]; omega
theorem fits_wrap (x: Int): fits (wrap64 x) = true := by rw [fits_iff]; unfold wrap64; omega
theorem wrap_fits (x: Int) (h: fits x = true): wrap64 x = x := by rw [fits_iff] at h; unfold wrap64; omega
theorem sum_b (m n: Int) (hm: fits m = true) (hn: fits n = true): (decide (wrap64 (m + n) < m) == decide (n < 0)) = fits (m + n) := by
 rw [fits_iff] at hm hn
 rw [Bool.eq_iff_iff,beq_iff_eq,decide_eq_decide,fits_iff]
 unfold wrap64
 omega
theorem diff_b (m n: Int) (hm: fits m = true) (hn: fits n = true): (decide (m < wrap64 (m - n)) == decide (n < 0)) = fits (m - n) := by
 rw [fits_iff] at hm hn
 rw [Bool.eq_iff_iff,beq_iff_eq,decide_eq_decide,fits_iff]
 unfold wrap64
 omega
theorem tdiv_fits (p n: Int) (hp: fits p = true) (h0: ¬ n = 0) (h1: ¬ n = -1): fits (p.tdiv n) = true := by
 by_cases e: n = 1
 · subst e; rw [Int.tdiv_one]; exact hp
 · rw [fits_iff] at hp ⊢
   have h2: (p.tdiv n).natAbs <= p.natAbs / 2 := by
    rw [Int.natAbs_tdiv]; exact Nat.div_le_div_left (by omega) (by decide)
   omega
theorem quo_iff (m n: Int) (hm: fits m = true) (hn: fits n = true) (h0: ¬ n = 0) (h1: n = -1 -> ¬ m = -9223372036854775808): wrap64 ((wrap64 (m * n)).tdiv n) = m ↔ fits (m * n) = true := by
 by_cases e: n = -1
 · subst e
   have hm' := (fits_iff m).1 hm
   have h2 := h1 rfl
   have hf: fits (m * -1) = true := by rw [fits_iff]; omega
   rw [wrap_fits _ hf,Int.mul_tdiv_cancel _ h0,wrap_fits _ hm]
   exact ⟨fun _ => hf,fun _ => rfl⟩
 · rw [wrap_fits _ (tdiv_fits _ _ (fits_wrap _) h0 e)]
   constructor
   · intro h
     have hd := Int.mul_tdiv_add_tmod (wrap64 (m * n)) n
     rw [h,Int.mul_comm n m] at hd
     have hl: ((wrap64 (m * n)).tmod n).natAbs < n.natAbs := by
      rw [Int.natAbs_tmod]; exact Nat.mod_lt _ (by omega)
     rw [fits_iff] at hn ⊢
     generalize (wrap64 (m * n)).tmod n = r at *
     generalize m * n = x at *
     unfold wrap64 at hd
     omega
   · intro h
     rw [wrap_fits _ h,Int.mul_tdiv_cancel _ h0]
theorem quo_b (m n: Int) (hm: fits m = true) (hn: fits n = true) (h0: ¬ n = 0) (h1: n = -1 -> ¬ m = -9223372036854775808): (wrap64 ((wrap64 (m * n)).tdiv n) == m) = fits (m * n) := by
 rw [Bool.eq_iff_iff,beq_iff_eq]; exact quo_iff m n hm hn h0 h1
theorem sum_walk (m n: Int) (hm: fits m = true) (hn: fits n = true) (w: World): Calls Tryz.prog 219 #[.int .i64 m, .int .i64 n] w fun e w' => Tells (m + n) e /\ w' = w := by
 go_enter Tryz.func219,Tryz.ntmps219
 go_wp2
 go_ret2
 exact ⟨tells_of (sum_b m n hm hn) (wrap_fits _) (fits_wrap _),rfl⟩
theorem diff_walk (m n: Int) (hm: fits m = true) (hn: fits n = true) (w: World): Calls Tryz.prog 220 #[.int .i64 m, .int .i64 n] w fun e w' => Tells (m - n) e /\ w' = w := by
 go_enter Tryz.func220,Tryz.ntmps220
 go_wp2
 go_ret2
 exact ⟨tells_of (diff_b m n hm hn) (wrap_fits _) (fits_wrap _),rfl⟩
theorem prod_walk (m n: Int) (hm: fits m = true) (hn: fits n = true) (w: World): Calls Tryz.prog 221 #[.int .i64 m, .int .i64 n] w fun e w' => Tells (m * n) e /\ ∃ k,w' = w.drewN k := by
 go_enter Tryz.func221,Tryz.ntmps221
 cases h0: (n == 0)
 · cases h1: (n == -1)
   · have hq: ¬ n = 0 := by simpa using h0
     have hq1: ¬ n = -1 := by simpa using h1
     go_wp2
     go_quiet (fail)
     go_wp2
     go_ret2
     exact ⟨tells_of (quo_b m n hm hn hq (fun h => absurd h hq1)) (wrap_fits _) (fits_wrap _),_,rfl⟩
   · have hq1: n = -1 := by simpa using h1
     go_wp2_with (go_at_call 220; refine (diff_walk _ _ (by decide) hm _).mono ?_; rintro e w' ⟨⟨x,rfl,hx,hf⟩,rfl⟩)
     go_ret2
     have e: m * n = 0 - m := by subst hq1; omega
     rw [e]
     exact ⟨tells_of (by rw [Int.zero_sub]) hx hf,0,rfl⟩
 · have hq: n = 0 := by simpa using h0
   go_wp2
   go_ret2
   subst hq
   exact ⟨tells_of (by rw [Int.mul_zero]; rfl) (fun _ => (Int.mul_zero m).symm) rfl,0,rfl⟩
theorem plus_walk (m n: Int) (hm: fits m = true) (hn: fits n = true) (w: World): Calls Tryz.prog 171 #[.int .i64 m, .int .i64 n] w fun e w' => Tells (m + n) e /\ w' = w := by
 go_enter Tryz.func171,Tryz.ntmps171
 have hm' := (fits_iff m).1 hm
 have hn' := (fits_iff n).1 hn
 go_wp2
 all_goals go_ret2
 all_goals first | exact ⟨tells_yes (by rw [fits_iff]; omega),rfl⟩ | exact ⟨tells_no (by rw [fits_no]; omega),rfl⟩
theorem minus_walk (m n: Int) (hm: fits m = true) (hn: fits n = true) (w: World): Calls Tryz.prog 172 #[.int .i64 m, .int .i64 n] w fun e w' => Tells (m - n) e /\ w' = w := by
 go_enter Tryz.func172,Tryz.ntmps172
 have hm' := (fits_iff m).1 hm
 have hn' := (fits_iff n).1 hn
 go_wp2
 all_goals go_ret2
 all_goals first | exact ⟨tells_yes (by rw [fits_iff]; omega),rfl⟩ | exact ⟨tells_no (by rw [fits_no]; omega),rfl⟩
theorem times_walk (m n: Int) (hm: fits m = true) (hn: fits n = true) (w: World): Calls Tryz.prog 173 #[.int .i64 m, .int .i64 n] w fun e w' => Tells (m * n) e /\ w' = w := by
 go_enter Tryz.func173,Tryz.ntmps173
 by_cases h0: m = 0
 · subst h0
   go_wp2
   go_ret2
   rw [Int.zero_mul]
   exact ⟨tells_yes rfl,rfl⟩
 by_cases h1: n = 0
 · subst h1
   go_wp2
   go_ret2
   rw [Int.mul_zero]
   exact ⟨tells_yes rfl,rfl⟩
 by_cases h2: m = -9223372036854775808 /\ n = -1
 · obtain ⟨rfl,rfl⟩ := h2
   go_wp2
   go_ret2
   exact ⟨tells_no rfl,rfl⟩
 by_cases h3: n = -9223372036854775808 /\ m = -1
 · obtain ⟨rfl,rfl⟩ := h3
   go_wp2
   go_ret2
   exact ⟨tells_no rfl,rfl⟩
 have hq := quo_iff m n hm hn h1 (fun e e' => h2 ⟨e',e⟩)
 have g0: (m == 0) = false := by simpa using h0
 have g1: (n == 0) = false := by simpa using h1
 have main: ∀ (b: Bool),(wrap64 ((wrap64 (m * n)).tdiv n) != m) = b -> fits (m * n) = !b := fun b hb => by
  cases b
  · exact hq.1 (by simpa using hb)
  · cases hf: fits (m * n)
    · rfl
    · exact absurd (hq.2 hf) (by simpa using hb)
 cases ht: (wrap64 ((wrap64 (m * n)).tdiv n) != m)
 all_goals have hf := main _ ht
 all_goals cases g2: (m == -9223372036854775808)
 all_goals cases g3: (n == -9223372036854775808)
 all_goals cases g4: (m == -1)
 all_goals cases g5: (n == -1)
 all_goals first | (exfalso; simp only [beq_iff_eq] at g2 g3 g4 g5; omega) | skip
 all_goals go_wp2
 all_goals go_ret2
 all_goals first
  | exact ⟨tells_of (by rw [hf]; rfl) (wrap_fits _) (fits_wrap _),rfl⟩
  | exact ⟨tells_no (by rw [hf]; rfl),rfl⟩
end Go.Proofs.YteibhbnlcpejpaaGreat
