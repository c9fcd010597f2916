import Derived.Laws.Cover1
import Derived.Test.YteibhbnlcpejpaaGreatMAB
import Derived.Test.YteibhbnlcpejpaaGreatMAA
import Derived.Test.YteibhbnlcpejpaaGreatShelf
namespace Go.Proofs.YteibhbnlcpejpaaGreat
open Go.RowKit
def or3 (x y z: Int): Int := if x == 0 then (if y == 0 then z else y) else x
def cmpS (s t: ByteArray): Int := if Op.bytesLess s.toList t.toList then -1 else if s.toList == t.toList then 0 else 1
def ordI (k n: Int) (s: ByteArray) (k' n': Int) (s': ByteArray): Int := or3 (Lib.compareInt k k') (Lib.compareInt n n') (cmpS s s')
theorem below_drewN {B: Nat} {a w: World} (h: Below B a w) (n: Nat): Below B a (w.drewN n) := ⟨h.os,h.tape,h.output,h.size,h.block⟩
theorem or3_walk (b: Nat) (x y z: Int) (w: World) (h0: w.cell? ⟨b,0,none⟩ = some (.int .i64 x)) (h1: w.cell? ⟨b,1,none⟩ = some (.int .i64 y)) (h2: w.cell? ⟨b,2,none⟩ = some (.int .i64 z)) :
 Calls Tryz.prog 174 #[.slice (some ⟨b,0,none⟩) 3 3] w fun e w' => e = .returned (.int .i64 (or3 x y z)) /\ w' = w := by
 go_enter Tryz.func174,Tryz.ntmps174
 go_wp2
 go_loop [8] (fun i => i = .int .i64 0 \/ (i = .int .i64 1 /\ (x == 0) = true) \/ (i = .int .i64 2 /\ (x == 0) = true /\ (y == 0) = true) \/ (i = .int .i64 3 /\ (x == 0) = true /\ (y == 0) = true /\ (z == 0) = true)) (fun i => 3 - (intOf i).toNat)
 case atStart => exact Or.inl rfl
 case round =>
  rcases hrel with rfl | ⟨rfl,hx⟩ | ⟨rfl,hx,hy⟩ | ⟨rfl,hx,hy,hz⟩
  · cases hx: (x == 0)
    · go_wp2
      go_ret
      exact ⟨by simp [or3,hx],rfl⟩
    · go_wp2
      exact ⟨Or.inr (Or.inl ⟨rfl,trivial⟩),by decide⟩
  · cases hy: (y == 0)
    · go_wp2
      go_ret
      exact ⟨by simp [or3,hx,hy],rfl⟩
    · go_wp2
      exact ⟨Or.inr (Or.inr (Or.inl ⟨rfl,hx,trivial⟩)),by decide⟩
  · cases hz: (z == 0)
    · go_wp2
      go_ret
      exact ⟨by simp [or3,hx,hy],rfl⟩
    · go_wp2
      exact ⟨Or.inr (Or.inr (Or.inr ⟨rfl,hx,hy,trivial⟩)),by decide⟩
  · go_wp2
    go_ret
    have: z = 0 := by simpa using hz
    exact ⟨by simp [or3,hx,hy,this],rfl⟩
theorem bytesLess_lt (x: List UInt8): ∀ y,Op.bytesLess x y = decide (x < y) := by
 induction x with
 | nil => intro y; cases y <;> simp [Op.bytesLess]
 | cons a x ih =>
  intro y
  cases y with
  | nil => simp [Op.bytesLess]
  | cons b y =>
   rw [Op.bytesLess,ih,Bool.eq_iff_iff]
   simp [List.cons_lt_cons_iff]
theorem bytesLess_irrefl (l: List UInt8): Op.bytesLess l l = false := by
 rw [bytesLess_lt]; exact decide_eq_false (List.lt_irrefl l)
theorem nans_walk (s: ByteArray) (w: World): Calls Tryz.prog 200 #[.string s] w fun e w' => e = .returned (.bool false) /\ w' = w := by
 go_enter Tryz.func200,Tryz.ntmps200
 go_wp2
 go_ret
 exact ⟨by simp,rfl⟩
theorem cmps_walk (s t: ByteArray) (w: World): Calls Tryz.prog 176 #[.string s, .string t] w fun e w' => e = .returned (.int .i64 (cmpS s t)) /\ w' = w := by
 go_enter Tryz.func176,Tryz.ntmps176
 cases h1: Op.bytesLess s.toList t.toList
 · cases h2: (s.toList == t.toList)
   all_goals go_wp2_with (go_at_call 200; refine (nans_walk _ _).mono ?_; rintro e w' ⟨rfl,rfl⟩)
   all_goals (go_ret; exact ⟨by simp_all [cmpS],rfl⟩)
 · go_wp2_with (go_at_call 200; refine (nans_walk _ _).mono ?_; rintro e w' ⟨rfl,rfl⟩)
   go_ret
   exact ⟨by simp [cmpS,h1],rfl⟩
theorem rorder_walk (k n: Int) (s: ByteArray) (k' n': Int) (s': ByteArray) (w: World): Calls Tryz.prog 118 #[valV k n s,valV k' n' s'] w fun e w' => e = .returned (.int .i64 (ordI k n s k' n' s')) /\ Below w.heap.size w w' := by
 go_enter Tryz.func118,Tryz.ntmps118
 unfold valV
 go_wp2
 all_goals (go_ret; refine ⟨?_,((Below.refl _ _).alloc (Nat.le_refl _) _).alloc (by simp) _⟩; simp_all [ordI,or3,Lib.compareInt,cmpS,bytesLess_irrefl])
 all_goals (repeat' split) <;> omega
theorem order_walk (k n: Int) (s: ByteArray) (k' n': Int) (s': ByteArray) (w: World): Calls Tryz.prog 132 #[valV k n s,valV k' n' s'] w fun e w' => e = .returned (.int .i64 (ordI k n s k' n' s')) /\ Below w.heap.size w w' := by
 go_enter Tryz.func132,Tryz.ntmps132
 unfold valV
 go_wp2
 refine wp_region_quiet_tail (fun w' => ∃ n,w' = World.drewN _ n) 15 (by kernel_rfl) (by kernel_rfl) ⟨1,rfl⟩ ?_
 simp only [List.take_succ_cons,List.take_zero,List.drop_succ_cons,List.drop_zero]
 repeat (go_big_quiet_step (first | (go_at_call 175; exact Calls.quiet_of_same (Tryz.cmp_Compare_int _ _ _)) | (go_at_call 176; exact Calls.quiet_of_same (cmps_walk _ _ _))))
 refine wpQuiet_nil ?_
 rintro _ ⟨nq,rfl⟩
 go_wp2_with (go_at_call 174; refine (or3_walk _ (Lib.compareInt k k') (Lib.compareInt n n') (cmpS s s') _ (by simp [go_sem]) (by simp [go_sem]) (by simp [go_sem])).mono ?_; rintro e w' ⟨rfl,rfl⟩)
 go_ret
 exact ⟨rfl,(below_drewN (((Below.refl _ _).alloc (Nat.le_refl _) _).alloc (by simp) _) nq).alloc (by simp; omega) _⟩
end Go.Proofs.YteibhbnlcpejpaaGreat
