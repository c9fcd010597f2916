import Derived.Test.YtdaikppppkbfoabMBH
set_option maxRecDepth 100000
set_option maxHeartbeats 4000000
namespace Go.Proofs.Ytdaikppppkbfoab
open Go.RowKit
abbrev catchW (w: World): World := caughtW (w.alloc (.cells #[.int .i64 0, .int .i64 0] 75))
theorem below_catchW (w: World): Below w.heap.size w (catchW w) :=
 (((Below.refl _ _).alloc (Nat.le_refl _) _).alloc (by simp) _).alloc (by simp; omega) _
abbrev OnlyAt (b n: Nat) (w w': World): Prop := Only (fun k => b <= k /\ k < b + n) w w'
theorem catch_any (g: FuncId) (hg: ∀ args w,(callFunc g args).run Try.prog w = .ok (.enter g args) w) (cap: Array Value) (w: World) (S: Nat -> Prop) (hS: ∀ k,w.heap.size <= k -> ¬ S k) (R: Ending -> World -> Prop)
 (h: Calls Try.prog g cap (catchW w) fun e w1 => R e w1 /\ Only S (catchW w) w1 /\ ∃ c a t,Came e c a t) :
 Calls Try.prog 29 #[.func (.func g) #[] cap] w fun e w' => ∃ e1 w1 c a t,R e1 w1 /\ Came e1 c a t /\ e = .returned (faultV c a) /\ Only S (catchW w) w1 /\
  OnlyAt w.heap.size 3 w1 w' := by
 have H := hide (caught_any g hg cap (w.alloc (.cells #[.int .i64 0, .int .i64 0] 75)) S (hS _ (by simp)) (hS _ (by simp; omega)) R h)
 clear hg h
 go_enter Try.func29,Try.ntmps29
 go_wp2_with fail
 refine (unhide H).mono ?_
 rintro e w2 ⟨e1,w1,c,a,t,hR,hc,rfl,ho,hsz,ho2⟩
 clear H
 have hz := ho.size
 simp at hz
 have q0: w2.cell? ⟨w.heap.size,0,none⟩ = some (.int .i64 0) := by
  rw [ho2.cell (by simp; omega) (by simp; omega),ho.cell (by simp; omega) (hS _ (by simp))]; simp [go_sem]
 have q1: w2.cell? ⟨w.heap.size,1,none⟩ = some (.int .i64 0) := by
  rw [ho2.cell (by simp; omega) (by simp; omega),ho.cell (by simp; omega) (hS _ (by simp))]; simp [go_sem]
 have f0: w2.frozen? ⟨w.heap.size,0,none⟩ = false := by
  rw [ho2.frozen (by simp; omega) (by simp; omega),ho.frozen (by simp; omega) (hS _ (by simp))]; simp [go_sem]
 have f1: w2.frozen? ⟨w.heap.size,1,none⟩ = false := by
  rw [ho2.frozen (by simp; omega) (by simp; omega),ho.frozen (by simp; omega) (hS _ (by simp))]; simp [go_sem]
 have hz2: w.heap.size < w2.heap.size := by omega
 clear hsz
 simp only [faultV]
 go_wp2
 refine bodyPost_ret (v := faultV c a) (by simp [results,Try.results29,go_sem,q0,q1,hz2,faultV]) rfl ⟨e1,w1,c,a,t,hR,hc,rfl,ho, ?_⟩
 exact (((ho2.weaken (fun k _ hk => by simp at hk; omega)).setCell (Or.inr (by simp)) _).setCell (Or.inr (by simp)) _).alloc _
theorem Only.through {S: Nat -> Prop} {w W w1 w': World} {n: Nat} (hb: Below w.heap.size w W) (ho: Only S W w1) (hat: OnlyAt w.heap.size n w1 w'): Only S w w' := by
 refine ⟨hat.os.trans (ho.os.trans hb.os),hat.tape.trans (ho.tape.trans hb.tape),hat.output.trans (ho.output.trans hb.output), ?_,fun k hk hs => ?_⟩
 · have := hb.size; have := ho.size; have := hat.size; omega
 · have h1 := hb.size
   have h2 := ho.size
   rw [hat.block k (by omega) (by omega),ho.block k (by omega) hs,hb.block k hk]
end Go.Proofs.Ytdaikppppkbfoab
