import Derived.Test.YteibhbnlcpejpaaGreatMAM
import Derived.Test.YteibhbnlcpejpaaGreatMBD
set_option maxRecDepth 100000
set_option maxHeartbeats 4000000
namespace Go.Proofs.YteibhbnlcpejpaaGreat
open Go.RowKit
abbrev caughtW (w: World): World := (w.alloc (.cells #[.int .i64 0, .int .i64 0] 155)).alloc (.cells #[.bool false] 4)
inductive Came: Ending -> Int -> Int -> Bool -> Prop
 | done: Came (.returned (.tuple #[])) 0 0 false
 | stop (c a: Int): Came (.panicked (stopped c a)) c a true
theorem hide {p: Prop} (h: p): Hid p := h
theorem unhide {p: Prop} (h: Hid p): p := h
theorem caughtW_cells {w w1: World} {S: Nat -> Prop} (ho: Only S (caughtW w) w1) (hS: ¬ S w.heap.size) (hS': ¬ S (w.heap.size + 1)) :
 w1.cell? ⟨w.heap.size,0,none⟩ = some (.int .i64 0) /\ w1.cell? ⟨w.heap.size,1,none⟩ = some (.int .i64 0) /\ w1.cell? ⟨w.heap.size + 1,0,none⟩ = some (.bool false) /\
 w1.frozen? ⟨w.heap.size,0,none⟩ = false /\ w1.frozen? ⟨w.heap.size,1,none⟩ = false /\ w1.frozen? ⟨w.heap.size + 1,0,none⟩ = false /\ w.heap.size + 1 < w1.heap.size := by
 have hz := ho.size
 simp at hz
 refine ⟨?_, ?_, ?_, ?_, ?_, ?_,by omega⟩
 · rw [ho.cell (by simp; omega) hS]; simp [go_sem]
 · rw [ho.cell (by simp; omega) hS]; simp [go_sem]
 · rw [ho.cell (by simp) hS']; simp [go_sem]
 · rw [ho.frozen (by simp; omega) hS]; simp [go_sem]
 · rw [ho.frozen (by simp; omega) hS]; simp [go_sem]
 · rw [ho.frozen (by simp) hS']; simp [go_sem]
theorem caught_any (g: FuncId) (hg: ∀ args w,(callFunc g args).run Tryz.prog w = .ok (.enter g args) w) (cap: Array Value) (w: World) (S: Nat -> Prop) (hS: ¬ S w.heap.size) (hS': ¬ S (w.heap.size + 1)) (R: Ending -> World -> Prop)
 (h: Calls Tryz.prog g cap (caughtW w) fun e w1 => R e w1 /\ Only S (caughtW w) w1 /\ ∃ c a t,Came e c a t) :
 Calls Tryz.prog 108 #[.func (.func g) #[] cap] w fun e w' => ∃ e1 w1 c a t,R e1 w1 /\ Came e1 c a t /\ e = .returned (.tuple #[faultV c a, .bool t]) /\ Only S (caughtW w) w1 /\
  w'.heap.size = w1.heap.size /\ Only (fun k => k = w.heap.size \/ k = w.heap.size + 1) w1 w' := by
 have hmf: ∀ (fn: Fn) (first cap: Array Value) (w: World),(Instr.makeFunc fn first cap).run Tryz.prog w = .ok (.func fn first cap) w := fun _ _ _ _ => rfl
 go_enter_defers Tryz.func108,Tryz.ntmps108
 have H := hide h
 clear h
 go_wp2_with fail
 refine (unhide H).mono ?_
 rintro e w1 ⟨hR,ho,c,a,t,hc⟩
 obtain ⟨z0,z1,z2,y0,y1,y2,hz⟩ := caughtW_cells ho hS hS'
 cases hc with
 | done =>
  go_wp2
  refine leaves_cons (f := 149) (args := #[.pointer (some ⟨w.heap.size,0,none⟩), .pointer (some ⟨w.heap.size + 1,0,none⟩)]) (by simp) (by simp [go_sem]) ?_
  refine (met_idle _ _ _).mono ?_
  rintro e u' w'' ⟨rfl,rfl,rfl⟩
  refine ⟨.tuple #[faultV 0 0, .bool false], ?_,_,w1,0,0,false,hR, .done,rfl,ho,by simp, ?_⟩
  · simp [results,Tryz.results108,go_sem,z0,z1,z2,faultV]
  · exact (((Only.refl _ _).setCell (Or.inr (Or.inl rfl)) _).setCell (Or.inr (Or.inl rfl)) _).setCell (Or.inr (Or.inr rfl)) _
 | stop =>
  refine leaves_cons (f := 149) (args := #[.pointer (some ⟨w.heap.size,0,none⟩), .pointer (some ⟨w.heap.size + 1,0,none⟩)]) (by simp) (by simp [go_sem]) ?_
  refine (met_stop _ _ c a _ _ _ [] _ z0 z1 z2 y0 y1 y2 (by omega)).mono ?_
  rintro e u' w'' ⟨rfl,rfl,rfl⟩
  refine ⟨.tuple #[faultV c a, .bool true], ?_,_,w1,c,a,true,hR, .stop c a,rfl,ho,by simp, ?_⟩
  · simp [results,Tryz.results108,go_sem,z0,z1,z2,faultV]
  · exact (((Only.refl _ _).setCell (Or.inr (Or.inl rfl)) _).setCell (Or.inr (Or.inl rfl)) _).setCell (Or.inr (Or.inr rfl)) _
abbrev catchW (w: World): World := caughtW (w.alloc (.cells #[.int .i64 0, .int .i64 0] 155))
theorem below_catchW (w: World): Below w.heap.size w (catchW w) :=
 (((Below.refl _ _).alloc (Nat.le_refl _) _).alloc (by simp) _).alloc (by simp; omega) _
abbrev OnlyAt (b n: Nat) (w w': World): Prop := Only (fun k => b <= k /\ k < b + n) w w'
theorem catch_any (g: FuncId) (hg: ∀ args w,(callFunc g args).run Tryz.prog w = .ok (.enter g args) w) (cap: Array Value) (w: World) (S: Nat -> Prop) (hS: ∀ k,w.heap.size <= k -> ¬ S k) (R: Ending -> World -> Prop)
 (h: Calls Tryz.prog g cap (catchW w) fun e w1 => R e w1 /\ Only S (catchW w) w1 /\ ∃ c a t,Came e c a t) :
 Calls Tryz.prog 62 #[.func (.func g) #[] cap] w fun e w' => ∃ e1 w1 c a t,R e1 w1 /\ Came e1 c a t /\ e = .returned (faultV c a) /\ Only S (catchW w) w1 /\
  OnlyAt w.heap.size 3 w1 w' := by
 have H := hide (caught_any g hg cap (w.alloc (.cells #[.int .i64 0, .int .i64 0] 155)) S (hS _ (by simp)) (hS _ (by simp; omega)) R h)
 clear hg h
 go_enter Tryz.func62,Tryz.ntmps62
 go_wp2_with fail
 refine (unhide H).mono ?_
 rintro e w2 ⟨e1,w1,c,a,t,hR,hc,rfl,ho,hsz,ho2⟩
 clear H
 have hz := ho.size
 simp at hz
 have q0: w2.cell? ⟨w.heap.size,0,none⟩ = some (.int .i64 0) := by
  rw [ho2.cell (by simp; omega) (by simp; omega),ho.cell (by simp; omega) (hS _ (by simp))]; simp [go_sem]
 have q1: w2.cell? ⟨w.heap.size,1,none⟩ = some (.int .i64 0) := by
  rw [ho2.cell (by simp; omega) (by simp; omega),ho.cell (by simp; omega) (hS _ (by simp))]; simp [go_sem]
 have f0: w2.frozen? ⟨w.heap.size,0,none⟩ = false := by
  rw [ho2.frozen (by simp; omega) (by simp; omega),ho.frozen (by simp; omega) (hS _ (by simp))]; simp [go_sem]
 have f1: w2.frozen? ⟨w.heap.size,1,none⟩ = false := by
  rw [ho2.frozen (by simp; omega) (by simp; omega),ho.frozen (by simp; omega) (hS _ (by simp))]; simp [go_sem]
 have hz2: w.heap.size < w2.heap.size := by omega
 clear hsz
 simp only [faultV]
 go_wp2
 refine bodyPost_ret (v := faultV c a) (by simp [results,Tryz.results62,go_sem,q0,q1,hz2,faultV]) rfl ⟨e1,w1,c,a,t,hR,hc,rfl,ho, ?_⟩
 exact (((ho2.weaken (fun k _ hk => by simp at hk; omega)).setCell (Or.inr (by simp)) _).setCell (Or.inr (by simp)) _).alloc _
theorem Only.through {S: Nat -> Prop} {w W w1 w': World} {n: Nat} (hb: Below w.heap.size w W) (ho: Only S W w1) (hat: OnlyAt w.heap.size n w1 w'): Only S w w' := by
 refine ⟨hat.os.trans (ho.os.trans hb.os),hat.tape.trans (ho.tape.trans hb.tape),hat.output.trans (ho.output.trans hb.output), ?_,fun k hk hs => ?_⟩
 · have := hb.size; have := ho.size; have := hat.size; omega
 · have h1 := hb.size
   have h2 := ho.size
   rw [hat.block k (by omega) (by omega),ho.block k (by omega) hs,hb.block k hk]
end Go.Proofs.YteibhbnlcpejpaaGreat
