import Derived.WalkKit
import Derived.Below
import Derived.Test.YteibhbnlcpejpaaGreatProg
namespace Go.Proofs.YteibhbnlcpejpaaGreat
open Go.RowKit
def tAnd (a b: Int): Int := if a == 0 || b == 0 then 0 else if a == 1 && b == 1 then 1 else 2
def tOr (a b: Int): Int := if a == 1 || b == 1 then 1 else if a == 0 && b == 0 then 0 else 2
def tNot (a: Int): Int := if a == 0 then 1 else if a == 1 then 0 else 2
theorem not_walk (a: Int) (w: World): Calls Tryz.prog 211 #[.int .i64 a] w fun e w' => e = .returned (.int .i64 (tNot a)) /\ w' = w := by
 go_enter Tryz.func211,Tryz.ntmps211
 go_wp2
 all_goals (go_ret; refine ⟨?_,rfl⟩; simp_all [tNot])
theorem and_walk (a b: Int) (w: World): Calls Tryz.prog 204 #[.int .i64 a, .int .i64 b] w fun e w' => e = .returned (.int .i64 (tAnd a b)) /\ w' = w := by
 go_enter Tryz.func204,Tryz.ntmps204
 go_wp2
 all_goals (go_ret; refine ⟨?_,rfl⟩; simp_all [tAnd])
theorem rnot_walk (a: Int) (w: World): Calls Tryz.prog 126 #[.int .i64 a] w fun e w' => e = .returned (.int .i64 (tNot a)) /\ w' = w := by
 go_enter Tryz.func126,Tryz.ntmps126
 go_wp2
 all_goals (go_ret; refine ⟨?_,rfl⟩; simp_all [tNot])
theorem rand_walk (a b: Int) (w: World): Calls Tryz.prog 127 #[.int .i64 a, .int .i64 b] w fun e w' => e = .returned (.int .i64 (tAnd a b)) /\ w' = w := by
 go_enter Tryz.func127,Tryz.ntmps127
 go_wp2
 all_goals (go_ret; refine ⟨?_,rfl⟩; simp_all [tAnd])
theorem ror_walk (a b: Int) (w: World): Calls Tryz.prog 128 #[.int .i64 a, .int .i64 b] w fun e w' => e = .returned (.int .i64 (tOr a b)) /\ w' = w := by
 go_enter Tryz.func128,Tryz.ntmps128
 go_wp2
 all_goals (go_ret; refine ⟨?_,rfl⟩; simp_all [tOr])
theorem three (a: Int): ((a == 0) = true /\ (a == 1) = false) \/ ((a == 0) = false /\ (a == 1) = true) \/ ((a == 0) = false /\ (a == 1) = false) := by
 by_cases h: a = 0
 · subst h; exact Or.inl ⟨rfl,rfl⟩
 · by_cases h1: a = 1
   · subst h1; exact Or.inr (Or.inl ⟨rfl,rfl⟩)
   · exact Or.inr (Or.inr ⟨by simpa using h,by simpa using h1⟩)
theorem not_and_not (a b: Int): tNot (tAnd (tNot a) (tNot b)) = tOr a b := by
 rcases three a with ⟨h0,h1⟩ | ⟨h0,h1⟩ | ⟨h0,h1⟩ <;> rcases three b with ⟨k0,k1⟩ | ⟨k0,k1⟩ | ⟨k0,k1⟩ <;> simp [tNot,tAnd,tOr,h0,h1,k0,k1]
theorem or_walk (a b: Int) (w: World): Calls Tryz.prog 205 #[.int .i64 a, .int .i64 b] w fun e w' => e = .returned (.int .i64 (tOr a b)) /\ w' = w := by
 go_enter Tryz.func205,Tryz.ntmps205
 go_wp2_with (first
  | (go_at_call 211; refine (not_walk _ _).mono ?_; rintro e w' ⟨rfl,rfl⟩)
  | (go_at_call 204; refine (and_walk _ _ _).mono ?_; rintro e w' ⟨rfl,rfl⟩))
 go_ret
 exact ⟨by rw [not_and_not]; rfl,rfl⟩
end Go.Proofs.YteibhbnlcpejpaaGreat
