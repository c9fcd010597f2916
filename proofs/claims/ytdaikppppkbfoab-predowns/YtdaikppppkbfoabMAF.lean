import Derived.Test.YtdaikppppkbfoabMAD
namespace Go.Proofs.Ytdaikppppkbfoab
open Go.RowKit
def fits (x: Int): Bool := decide (-9223372036854775808 <= x) && decide (x <= 9223372036854775807)
theorem fits_iff (x: Int): fits x = true ↔ -9223372036854775808 <= x /\ x <= 9223372036854775807 := by simp [fits]
def Tells (v: Int) (e: Ending): Prop := ∃ x,e = .returned (.tuple #[.int .i64 x, .bool (fits v)]) /\ (fits v = true -> x = v) /\ fits x = true
theorem tells_of {v x: Int} {b: Bool} (hb: b = fits v) (hx: fits v = true -> x = v) (hf: fits x = true): Tells v (.returned (.tuple #[.int .i64 x, .bool b])) := by
 subst hb; exact ⟨x,rfl,hx,hf⟩
theorem fits_wrap (x: Int): fits (wrap64 x) = true := by rw [fits_iff]; unfold wrap64; omega
theorem wrap_fits (x: Int) (h: fits x = true): wrap64 x = x := by rw [fits_iff] at h; unfold wrap64; omega
theorem sum_b (m n: Int) (hm: fits m = true) (hn: fits n = true): (decide (wrap64 (m + n) < m) == decide (n < 0)) = fits (m + n) := by
 rw [fits_iff] at hm hn
 rw [Bool.eq_iff_iff,beq_iff_eq,decide_eq_decide,fits_iff]
 unfold wrap64
 omega
theorem diff_b (m n: Int) (hm: fits m = true) (hn: fits n = true): (decide (m < wrap64 (m - n)) == decide (n < 0)) = fits (m - n) := by
 rw [fits_iff] at hm hn
 rw [Bool.eq_iff_iff,beq_iff_eq,decide_eq_decide,fits_iff]
 unfold wrap64
 omega
theorem tdiv_fits (p n: Int) (hp: fits p = true) (h0: ¬ n = 0) (h1: ¬ n = -1): fits (p.tdiv n) = true := by
 by_cases e: n = 1
 · subst e; rw [Int.tdiv_one]; exact hp
 · rw [fits_iff] at hp ⊢
   have h2: (p.tdiv n).natAbs <= p.natAbs / 2 := by
    rw [Int.natAbs_tdiv]; exact Nat.div_le_div_left (by omega) (by decide)
   omega
theorem quo_iff (m n: Int) (hm: fits m = true) (hn: fits n = true) (h0: ¬ n = 0) (h1: n = -1 -> ¬ m = -9223372036854775808): wrap64 ((wrap64 (m * n)).tdiv n) = m ↔ fits (m * n) = true := by
 by_cases e: n = -1
 · subst e
   have hm' := (fits_iff m).1 hm
   have h2 := h1 rfl
   have hf: fits (m * -1) = true := by rw [fits_iff]; omega
   rw [wrap_fits _ hf,Int.mul_tdiv_cancel _ h0,wrap_fits _ hm]
   exact ⟨fun _ => hf,fun _ => rfl⟩
 · rw [wrap_fits _ (tdiv_fits _ _ (fits_wrap _) h0 e)]
   constructor
   · intro h
     have hd := Int.mul_tdiv_add_tmod (wrap64 (m * n)) n
     rw [h,Int.mul_comm n m] at hd
     have hl: ((wrap64 (m * n)).tmod n).natAbs < n.natAbs := by
      rw [Int.natAbs_tmod]; exact Nat.mod_lt _ (by omega)
     rw [fits_iff] at hn ⊢
     generalize (wrap64 (m * n)).tmod n = r at *
     generalize m * n = x at *
     unfold wrap64 at hd
     omega
   · intro h
     rw [wrap_fits _ h,Int.mul_tdiv_cancel _ h0]
theorem quo_b (m n: Int) (hm: fits m = true) (hn: fits n = true) (h0: ¬ n = 0) (h1: n = -1 -> ¬ m = -9223372036854775808): (wrap64 ((wrap64 (m * n)).tdiv n) == m) = fits (m * n) := by
 rw [Bool.eq_iff_iff,beq_iff_eq]; exact quo_iff m n hm hn h0 h1
theorem sum_walk (m n: Int) (hm: fits m = true) (hn: fits n = true) (w: World): Calls Try.prog 89 #[.int .i64 m, .int .i64 n] w fun e w' => Tells (m + n) e /\ w' = w := by
 go_enter Try.func89,Try.ntmps89
 go_wp2
 go_ret2
 exact ⟨tells_of (sum_b m n hm hn) (wrap_fits _) (fits_wrap _),rfl⟩
theorem diff_walk (m n: Int) (hm: fits m = true) (hn: fits n = true) (w: World): Calls Try.prog 90 #[.int .i64 m, .int .i64 n] w fun e w' => Tells (m - n) e /\ w' = w := by
 go_enter Try.func90,Try.ntmps90
 go_wp2
 go_ret2
 exact ⟨tells_of (diff_b m n hm hn) (wrap_fits _) (fits_wrap _),rfl⟩
theorem prod_walk (m n: Int) (hm: fits m = true) (hn: fits n = true) (w: World): Calls Try.prog 91 #[.int .i64 m, .int .i64 n] w fun e w' => Tells (m * n) e /\ ∃ k,w' = w.drewN k := by
 go_enter Try.func91,Try.ntmps91
 cases h0: (n == 0)
 · cases h1: (n == -1)
   · have hq: ¬ n = 0 := by simpa using h0
     have hq1: ¬ n = -1 := by simpa using h1
     go_wp2
     go_quiet (fail)
     go_wp2
     go_ret2
     exact ⟨tells_of (quo_b m n hm hn hq (fun h => absurd h hq1)) (wrap_fits _) (fits_wrap _),_,rfl⟩
   · have hq1: n = -1 := by simpa using h1
     go_wp2_with (go_at_call 90; refine (diff_walk _ _ (by decide) hm _).mono ?_; rintro e w' ⟨⟨x,rfl,hx,hf⟩,rfl⟩)
     go_ret2
     have e: m * n = 0 - m := by subst hq1; omega
     rw [e]
     exact ⟨tells_of (by rw [Int.zero_sub]) hx hf,0,rfl⟩
 · have hq: n = 0 := by simpa using h0
   go_wp2
   go_ret2
   subst hq
   exact ⟨tells_of (by rw [Int.mul_zero]; rfl) (fun _ => (Int.mul_zero m).symm) rfl,0,rfl⟩
end Go.Proofs.Ytdaikppppkbfoab
