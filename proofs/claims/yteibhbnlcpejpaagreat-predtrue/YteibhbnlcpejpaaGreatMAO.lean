import Derived.Defers
import Derived.Recover
import Derived.Test.YteibhbnlcpejpaaGreatMAE
import Derived.Deep.Draws
set_option maxRecDepth 100000
set_option maxHeartbeats 4000000
namespace Go.Proofs.YteibhbnlcpejpaaGreat
open Go.RowKit
def faultV (c a: Int): Value := .agg #[.int .i64 c, .int .i64 a]
def stopped (c a: Int): List PanicEntry := [{ v := .iface 155 (faultV c a),recovered := false }]
theorem stop_ok (a: Int) (w: World) :
 Calls Tryz.prog 189 #[.int .i64 0, .int .i64 a] w fun e w' => e = .returned (.tuple #[]) /\ w' = w := by
 go_enter Tryz.func189,Tryz.ntmps189
 go_wp2
 go_end0
 exact ⟨rfl,rfl⟩
theorem stop_no (c a: Int) (hc: (c != 0) = true) (w: World) :
 Calls Tryz.prog 189 #[.int .i64 c, .int .i64 a] w fun e w' => e = .panicked (stopped c a) /\ w' = w := by
 go_enter Tryz.func189,Tryz.ntmps189
 go_wp2
 exact ⟨rfl,rfl,rfl⟩
theorem check_ok (w: World) :
 Calls Tryz.prog 151 #[.int .i64 0] w fun e w' => e = .returned (.tuple #[]) /\ w' = w := by
 go_enter Tryz.func151,Tryz.ntmps151
 go_wp2_with (go_at_call 189; refine (stop_ok _ _).mono ?_; rintro e w' ⟨rfl,rfl⟩)
 go_end0
 exact ⟨rfl,rfl⟩
theorem check_no (c: Int) (hc: (c != 0) = true) (w: World) :
 Calls Tryz.prog 151 #[.int .i64 c] w fun e w' => e = .panicked (stopped c 0) /\ w' = w := by
 go_enter Tryz.func151,Tryz.ntmps151
 go_wp2_with (go_at_call 189; refine (stop_no _ _ hc _).mono ?_; rintro e w' ⟨rfl,rfl⟩)
 exact ⟨rfl,rfl,rfl⟩
theorem met_idle (p q: Addr) (w: World) :
 CallsD Tryz.prog 149 #[.pointer (some p), .pointer (some q)] .returning w fun e u' w' => e = .returned (.tuple #[]) /\ u' = .returning /\ w' = w := by
 refine callsD_of_wpS Tryz.func149 rfl fun c₀ cs hu => ?_
 apply wpS_seq
 apply wpS_region
 simp [wpOpsS,go_sem,recoverD,hu,Tryz.ntmps149,Exit.thenS]
 apply wpS_of_wp
 simp only [Array.replicate_succ,Array.replicate_zero,List.push_toArray,List.append_toArray,List.nil_append,List.cons_append,List.setIfInBounds_toArray,List.set_cons_succ,List.set_cons_zero]
 go_wp2
 exact ⟨rfl, .returning,by cases c₀; simp_all, .tuple #[],results_none rfl _ _ _,rfl,rfl,rfl⟩
theorem assert_fault (v: Value) (w: World): (Instr.typeAssert (.iface 155 v) 20 155 true).run Tryz.prog w = .ok (.tuple #[v, .bool true]) w := by
 simp [Instr.typeAssert,run_underlying Tryz.underlying155]
theorem met_stop (b d: Nat) (c a: Int) (x0 x1 x2: Value) (older: List PanicEntry) (w: World) (h0: w.cell? ⟨b,0,none⟩ = some x0) (h1: w.cell? ⟨b,1,none⟩ = some x1)
 (h2: w.cell? ⟨d,0,none⟩ = some x2) (f0: w.frozen? ⟨b,0,none⟩ = false) (f1: w.frozen? ⟨b,1,none⟩ = false) (f2: w.frozen? ⟨d,0,none⟩ = false) (hbd: b ≠ d) :
 CallsD Tryz.prog 149 #[.pointer (some ⟨b,0,none⟩), .pointer (some ⟨d,0,none⟩)] (.panicking ({ v := .iface 155 (faultV c a),recovered := false } :: older)) w fun e u' w' =>
  e = .returned (.tuple #[]) /\ u' = .panicking ({ v := .iface 155 (faultV c a),recovered := true } :: older) /\ w' = ((w.setCell ⟨b,0,none⟩ (.int .i64 c)).setCell ⟨b,1,none⟩ (.int .i64 a)).setCell ⟨d,0,none⟩ (.bool true) := by
 refine callsD_of_wpS Tryz.func149 rfl fun c₀ cs hu => ?_
 apply wpS_seq
 apply wpS_region
 simp [wpOpsS,go_sem,recoverD,hu,Tryz.ntmps149,Exit.thenS]
 apply wpS_of_wp
 simp only [Array.replicate_succ,Array.replicate_zero,List.push_toArray,List.append_toArray,List.nil_append,List.cons_append,List.setIfInBounds_toArray,List.set_cons_succ,List.set_cons_zero,faultV]
 have hta := assert_fault
 go_wp2
 trace_state
 exact ⟨rfl,_,rfl, .tuple #[],results_none rfl _ _ _,rfl,rfl,rfl⟩
structure Only (S: Nat -> Prop) (w w': World): Prop where
 os: w'.os = w.os
 tape: w'.tape = w.tape
 output: w'.output = w.output
 size: w.heap.size <= w'.heap.size
 block: ∀ k,k < w.heap.size -> ¬ S k -> w'.heap[k]? = w.heap[k]?
theorem Only.refl (S: Nat -> Prop) (w: World): Only S w w := ⟨rfl,rfl,rfl,Nat.le_refl _,fun _ _ _ => rfl⟩
theorem Only.trans {S: Nat -> Prop} {a b c: World} (h: Only S a b) (k: Only S b c): Only S a c :=
 ⟨k.os.trans h.os,k.tape.trans h.tape,k.output.trans h.output,Nat.le_trans h.size k.size,
  fun i hi hs => (k.block i (Nat.lt_of_lt_of_le hi h.size) hs).trans (h.block i hi hs)⟩
theorem Only.weaken {S T: Nat -> Prop} {a b: World} (h: Only S a b) (hST: ∀ k,k < a.heap.size -> S k -> T k): Only T a b :=
 ⟨h.os,h.tape,h.output,h.size,fun i hi hs => h.block i hi fun x => hs (hST i hi x)⟩
theorem Only.alloc {S: Nat -> Prop} {a w: World} (h: Only S a w) (o: Obj): Only S a (w.alloc o) :=
 h.trans ⟨rfl,rfl,rfl,by simp,fun k hk _ => Below.heap_alloc _ _ _ hk⟩
theorem Only.setCell {S: Nat -> Prop} {a w: World} (h: Only S a w) {p: Addr} (hp: a.heap.size <= p.block \/ S p.block) (u: Value): Only S a (w.setCell p u) := by
 refine ⟨h.os,h.tape,h.output,by simpa [World.setCell] using h.size,fun k hk hs => ?_⟩
 have hne: k ≠ p.block := fun e => by rcases hp with hp | hp; omega; exact hs (e ▸ hp)
 rw [Below.heap_setCell _ _ _ _ hne]
 exact h.block k hk hs
theorem Only.cell {S: Nat -> Prop} {w w': World} (h: Only S w w') {p: Addr} (hp: p.block < w.heap.size) (hs: ¬ S p.block): w'.cell? p = w.cell? p := World.cell?_of_block (w := w) (h.block p.block hp hs)
theorem Only.frozen {S: Nat -> Prop} {w w': World} (h: Only S w w') {p: Addr} (hp: p.block < w.heap.size) (hs: ¬ S p.block): w'.frozen? p = w.frozen? p := World.frozen?_of_block (w := w) (h.block p.block hp hs)
theorem Only.below {S: Nat -> Prop} {w w': World} (h: Only S w w') {B: Nat} (hB: B <= w.heap.size) (hs: ∀ k,k < B -> ¬ S k): Below B w w' :=
 ⟨h.os,h.tape,h.output,h.size,fun k hk => h.block k (by omega) (hs k hk)⟩
theorem Only.of_below {S: Nat -> Prop} {w w': World} (h: Below w.heap.size w w'): Only S w w' :=
 ⟨h.os,h.tape,h.output,h.size,fun k hk _ => h.block k hk⟩
abbrev caughtW (w: World): World := (w.alloc (.cells #[.int .i64 0, .int .i64 0] 155)).alloc (.cells #[.bool false] 4)
inductive Came: Ending -> Int -> Int -> Bool -> Prop
 | done: Came (.returned (.tuple #[])) 0 0 false
 | stop (c a: Int): Came (.panicked (stopped c a)) c a true
theorem hide {p: Prop} (h: p): Hid p := h
theorem unhide {p: Prop} (h: Hid p): p := h
theorem caughtW_cells {w w1: World} {S: Nat -> Prop} (ho: Only S (caughtW w) w1) (hS: ¬ S w.heap.size) (hS': ¬ S (w.heap.size + 1)) :
 w1.cell? ⟨w.heap.size,0,none⟩ = some (.int .i64 0) /\ w1.cell? ⟨w.heap.size,1,none⟩ = some (.int .i64 0) /\ w1.cell? ⟨w.heap.size + 1,0,none⟩ = some (.bool false) /\
 w1.frozen? ⟨w.heap.size,0,none⟩ = false /\ w1.frozen? ⟨w.heap.size,1,none⟩ = false /\ w1.frozen? ⟨w.heap.size + 1,0,none⟩ = false /\ w.heap.size + 1 < w1.heap.size := by
 have hz := ho.size
 simp at hz
 refine ⟨?_, ?_, ?_, ?_, ?_, ?_,by omega⟩
 · rw [ho.cell (by simp; omega) hS]; simp [go_sem]
 · rw [ho.cell (by simp; omega) hS]; simp [go_sem]
 · rw [ho.cell (by simp) hS']; simp [go_sem]
 · rw [ho.frozen (by simp; omega) hS]; simp [go_sem]
 · rw [ho.frozen (by simp; omega) hS]; simp [go_sem]
 · rw [ho.frozen (by simp) hS']; simp [go_sem]
theorem caught_any (g: FuncId) (hg: ∀ args w,(callFunc g args).run Tryz.prog w = .ok (.enter g args) w) (cap: Array Value) (w: World) (S: Nat -> Prop) (hS: ¬ S w.heap.size) (hS': ¬ S (w.heap.size + 1)) (R: Ending -> World -> Prop)
 (h: Calls Tryz.prog g cap (caughtW w) fun e w1 => R e w1 /\ Only S (caughtW w) w1 /\ ∃ c a t,Came e c a t) :
 Calls Tryz.prog 108 #[.func (.func g) #[] cap] w fun e w' => ∃ e1 w1 c a t,R e1 w1 /\ Came e1 c a t /\ e = .returned (.tuple #[faultV c a, .bool t]) /\ Only S (caughtW w) w1 /\
  w'.heap.size = w1.heap.size /\ Only (fun k => k = w.heap.size \/ k = w.heap.size + 1) w1 w' := by
 have hmf: ∀ (fn: Fn) (first cap: Array Value) (w: World),(Instr.makeFunc fn first cap).run Tryz.prog w = .ok (.func fn first cap) w := fun _ _ _ _ => rfl
 go_enter_defers Tryz.func108,Tryz.ntmps108
 have H := hide h
 clear h
 go_wp2_with fail
 refine (unhide H).mono ?_
 rintro e w1 ⟨hR,ho,c,a,t,hc⟩
 obtain ⟨z0,z1,z2,y0,y1,y2,hz⟩ := caughtW_cells ho hS hS'
 cases hc with
 | done =>
  go_wp2
  refine leaves_cons (f := 149) (args := #[.pointer (some ⟨w.heap.size,0,none⟩), .pointer (some ⟨w.heap.size + 1,0,none⟩)]) (by simp) (by simp [go_sem]) ?_
  refine (met_idle _ _ _).mono ?_
  rintro e u' w'' ⟨rfl,rfl,rfl⟩
  refine ⟨.tuple #[faultV 0 0, .bool false], ?_,_,w1,0,0,false,hR, .done,rfl,ho,by simp, ?_⟩
  · simp [results,Tryz.results108,go_sem,z0,z1,z2,faultV]
  · exact (((Only.refl _ _).setCell (Or.inr (Or.inl rfl)) _).setCell (Or.inr (Or.inl rfl)) _).setCell (Or.inr (Or.inr rfl)) _
 | stop =>
  refine leaves_cons (f := 149) (args := #[.pointer (some ⟨w.heap.size,0,none⟩), .pointer (some ⟨w.heap.size + 1,0,none⟩)]) (by simp) (by simp [go_sem]) ?_
  refine (met_stop _ _ c a _ _ _ [] _ z0 z1 z2 y0 y1 y2 (by omega)).mono ?_
  rintro e u' w'' ⟨rfl,rfl,rfl⟩
  refine ⟨.tuple #[faultV c a, .bool true], ?_,_,w1,c,a,true,hR, .stop c a,rfl,ho,by simp, ?_⟩
  · simp [results,Tryz.results108,go_sem,z0,z1,z2,faultV]
  · exact (((Only.refl _ _).setCell (Or.inr (Or.inl rfl)) _).setCell (Or.inr (Or.inl rfl)) _).setCell (Or.inr (Or.inr rfl)) _
abbrev catchW (w: World): World := caughtW (w.alloc (.cells #[.int .i64 0, .int .i64 0] 155))
theorem below_catchW (w: World): Below w.heap.size w (catchW w) :=
 (((Below.refl _ _).alloc (Nat.le_refl _) _).alloc (by simp) _).alloc (by simp; omega) _
abbrev OnlyAt (b n: Nat) (w w': World): Prop := Only (fun k => b <= k /\ k < b + n) w w'
theorem catch_any (g: FuncId) (hg: ∀ args w,(callFunc g args).run Tryz.prog w = .ok (.enter g args) w) (cap: Array Value) (w: World) (S: Nat -> Prop) (hS: ∀ k,w.heap.size <= k -> ¬ S k) (R: Ending -> World -> Prop)
 (h: Calls Tryz.prog g cap (catchW w) fun e w1 => R e w1 /\ Only S (catchW w) w1 /\ ∃ c a t,Came e c a t) :
 Calls Tryz.prog 62 #[.func (.func g) #[] cap] w fun e w' => ∃ e1 w1 c a t,R e1 w1 /\ Came e1 c a t /\ e = .returned (faultV c a) /\ Only S (catchW w) w1 /\
  OnlyAt w.heap.size 3 w1 w' := by
 have H := hide (caught_any g hg cap (w.alloc (.cells #[.int .i64 0, .int .i64 0] 155)) S (hS _ (by simp)) (hS _ (by simp; omega)) R h)
 clear hg h
 go_enter Tryz.func62,Tryz.ntmps62
 go_wp2_with fail
 refine (unhide H).mono ?_
 rintro e w2 ⟨e1,w1,c,a,t,hR,hc,rfl,ho,hsz,ho2⟩
 clear H
 have hz := ho.size
 simp at hz
 have q0: w2.cell? ⟨w.heap.size,0,none⟩ = some (.int .i64 0) := by
  rw [ho2.cell (by simp; omega) (by simp; omega),ho.cell (by simp; omega) (hS _ (by simp))]; simp [go_sem]
 have q1: w2.cell? ⟨w.heap.size,1,none⟩ = some (.int .i64 0) := by
  rw [ho2.cell (by simp; omega) (by simp; omega),ho.cell (by simp; omega) (hS _ (by simp))]; simp [go_sem]
 have f0: w2.frozen? ⟨w.heap.size,0,none⟩ = false := by
  rw [ho2.frozen (by simp; omega) (by simp; omega),ho.frozen (by simp; omega) (hS _ (by simp))]; simp [go_sem]
 have f1: w2.frozen? ⟨w.heap.size,1,none⟩ = false := by
  rw [ho2.frozen (by simp; omega) (by simp; omega),ho.frozen (by simp; omega) (hS _ (by simp))]; simp [go_sem]
 have hz2: w.heap.size < w2.heap.size := by omega
 clear hsz
 simp only [faultV]
 go_wp2
 refine bodyPost_ret (v := faultV c a) (by simp [results,Tryz.results62,go_sem,q0,q1,hz2,faultV]) rfl ⟨e1,w1,c,a,t,hR,hc,rfl,ho, ?_⟩
 exact (((ho2.weaken (fun k _ hk => by simp at hk; omega)).setCell (Or.inr (by simp)) _).setCell (Or.inr (by simp)) _).alloc _
theorem Only.through {S: Nat -> Prop} {w W w1 w': World} {n: Nat} (hb: Below w.heap.size w W) (ho: Only S W w1) (hat: OnlyAt w.heap.size n w1 w'): Only S w w' := by
 refine ⟨hat.os.trans (ho.os.trans hb.os),hat.tape.trans (ho.tape.trans hb.tape),hat.output.trans (ho.output.trans hb.output), ?_,fun k hk hs => ?_⟩
 · have := hb.size; have := ho.size; have := hat.size; omega
 · have h1 := hb.size
   have h2 := ho.size
   rw [hat.block k (by omega) (by omega),ho.block k (by omega) hs,hb.block k hk]
end Go.Proofs.YteibhbnlcpejpaaGreat
