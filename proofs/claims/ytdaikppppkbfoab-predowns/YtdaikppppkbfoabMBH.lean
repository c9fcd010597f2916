import Derived.Test.YtdaikppppkbfoabMAD
import Derived.Deep.Draws
import Derived.Test.YtdaikppppkbfoabMAP
set_option maxRecDepth 100000
set_option maxHeartbeats 4000000
namespace Go.Proofs.Ytdaikppppkbfoab
open Go.RowKit
structure Only (S: Nat -> Prop) (w w': World): Prop where
 os: w'.os = w.os
 tape: w'.tape = w.tape
 output: w'.output = w.output
 size: w.heap.size <= w'.heap.size
 block: ∀ k,k < w.heap.size -> ¬ S k -> w'.heap[k]? = w.heap[k]?
theorem Only.refl (S: Nat -> Prop) (w: World): Only S w w := ⟨rfl,rfl,rfl,Nat.le_refl _,fun _ _ _ => rfl⟩
theorem Only.trans {S: Nat -> Prop} {a b c: World} (h: Only S a b) (k: Only S b c): Only S a c :=
 ⟨k.os.trans h.os,k.tape.trans h.tape,k.output.trans h.output,Nat.le_trans h.size k.size,
  fun i hi hs => (k.block i (Nat.lt_of_lt_of_le hi h.size) hs).trans (h.block i hi hs)⟩
theorem Only.weaken {S T: Nat -> Prop} {a b: World} (h: Only S a b) (hST: ∀ k,k < a.heap.size -> S k -> T k): Only T a b :=
 ⟨h.os,h.tape,h.output,h.size,fun i hi hs => h.block i hi fun x => hs (hST i hi x)⟩
theorem Only.alloc {S: Nat -> Prop} {a w: World} (h: Only S a w) (o: Obj): Only S a (w.alloc o) :=
 h.trans ⟨rfl,rfl,rfl,by simp,fun k hk _ => Below.heap_alloc _ _ _ hk⟩
theorem Only.setCell {S: Nat -> Prop} {a w: World} (h: Only S a w) {p: Addr} (hp: a.heap.size <= p.block \/ S p.block) (u: Value): Only S a (w.setCell p u) := by
 refine ⟨h.os,h.tape,h.output,by simpa [World.setCell] using h.size,fun k hk hs => ?_⟩
 have hne: k ≠ p.block := fun e => by rcases hp with hp | hp; omega; exact hs (e ▸ hp)
 rw [Below.heap_setCell _ _ _ _ hne]
 exact h.block k hk hs
theorem Only.drew {S: Nat -> Prop} {a w: World} (h: Only S a w): Only S a w.drew := ⟨h.os,h.tape,h.output,h.size,h.block⟩
theorem Only.cell {S: Nat -> Prop} {w w': World} (h: Only S w w') {p: Addr} (hp: p.block < w.heap.size) (hs: ¬ S p.block): w'.cell? p = w.cell? p := World.cell?_of_block (w := w) (h.block p.block hp hs)
theorem Only.frozen {S: Nat -> Prop} {w w': World} (h: Only S w w') {p: Addr} (hp: p.block < w.heap.size) (hs: ¬ S p.block): w'.frozen? p = w.frozen? p := World.frozen?_of_block (w := w) (h.block p.block hp hs)
theorem Only.below {S: Nat -> Prop} {w w': World} (h: Only S w w') {B: Nat} (hB: B <= w.heap.size) (hs: ∀ k,k < B -> ¬ S k): Below B w w' :=
 ⟨h.os,h.tape,h.output,h.size,fun k hk => h.block k (by omega) (hs k hk)⟩
theorem Only.of_below {S: Nat -> Prop} {w w': World} (h: Below w.heap.size w w'): Only S w w' :=
 ⟨h.os,h.tape,h.output,h.size,fun k hk _ => h.block k hk⟩
abbrev caughtW (w: World): World := (w.alloc (.cells #[.int .i64 0, .int .i64 0] 75)).alloc (.cells #[.bool false] 4)
inductive Came: Ending -> Int -> Int -> Bool -> Prop
 | done: Came (.returned (.tuple #[])) 0 0 false
 | stop (c a: Int): Came (.panicked (stopped c a)) c a true
theorem hide {p: Prop} (h: p): Hid p := h
theorem unhide {p: Prop} (h: Hid p): p := h
theorem caughtW_cells {w w1: World} {S: Nat -> Prop} (ho: Only S (caughtW w) w1) (hS: ¬ S w.heap.size) (hS': ¬ S (w.heap.size + 1)) :
 w1.cell? ⟨w.heap.size,0,none⟩ = some (.int .i64 0) /\ w1.cell? ⟨w.heap.size,1,none⟩ = some (.int .i64 0) /\ w1.cell? ⟨w.heap.size + 1,0,none⟩ = some (.bool false) /\
 w1.frozen? ⟨w.heap.size,0,none⟩ = false /\ w1.frozen? ⟨w.heap.size,1,none⟩ = false /\ w1.frozen? ⟨w.heap.size + 1,0,none⟩ = false /\ w.heap.size + 1 < w1.heap.size := by
 have hz := ho.size
 simp at hz
 refine ⟨?_, ?_, ?_, ?_, ?_, ?_,by omega⟩
 · rw [ho.cell (by simp; omega) hS]; simp [go_sem]
 · rw [ho.cell (by simp; omega) hS]; simp [go_sem]
 · rw [ho.cell (by simp) hS']; simp [go_sem]
 · rw [ho.frozen (by simp; omega) hS]; simp [go_sem]
 · rw [ho.frozen (by simp; omega) hS]; simp [go_sem]
 · rw [ho.frozen (by simp) hS']; simp [go_sem]
theorem caught_any (g: FuncId) (hg: ∀ args w,(callFunc g args).run Try.prog w = .ok (.enter g args) w) (cap: Array Value) (w: World) (S: Nat -> Prop) (hS: ¬ S w.heap.size) (hS': ¬ S (w.heap.size + 1)) (R: Ending -> World -> Prop)
 (h: Calls Try.prog g cap (caughtW w) fun e w1 => R e w1 /\ Only S (caughtW w) w1 /\ ∃ c a t,Came e c a t) :
 Calls Try.prog 54 #[.func (.func g) #[] cap] w fun e w' => ∃ e1 w1 c a t,R e1 w1 /\ Came e1 c a t /\ e = .returned (.tuple #[faultV c a, .bool t]) /\ Only S (caughtW w) w1 /\
  w'.heap.size = w1.heap.size /\ Only (fun k => k = w.heap.size \/ k = w.heap.size + 1) w1 w' := by
 have hmf: ∀ (fn: Fn) (first cap: Array Value) (w: World),(Instr.makeFunc fn first cap).run Try.prog w = .ok (.func fn first cap) w := fun _ _ _ _ => rfl
 go_enter_defers Try.func54,Try.ntmps54
 have H := hide h
 clear h
 go_wp2_with fail
 refine (unhide H).mono ?_
 rintro e w1 ⟨hR,ho,c,a,t,hc⟩
 obtain ⟨z0,z1,z2,y0,y1,y2,hz⟩ := caughtW_cells ho hS hS'
 cases hc with
 | done =>
  go_wp2
  refine leaves_cons (f := 68) (args := #[.pointer (some ⟨w.heap.size,0,none⟩), .pointer (some ⟨w.heap.size + 1,0,none⟩)]) (by simp) (by simp [go_sem]) ?_
  refine (met_idle _ _ _).mono ?_
  rintro e u' w'' ⟨rfl,rfl,rfl⟩
  refine ⟨.tuple #[faultV 0 0, .bool false], ?_,_,w1,0,0,false,hR, .done,rfl,ho,by simp, ?_⟩
  · simp [results,Try.results54,go_sem,z0,z1,z2,faultV]
  · exact (((Only.refl _ _).setCell (Or.inr (Or.inl rfl)) _).setCell (Or.inr (Or.inl rfl)) _).setCell (Or.inr (Or.inr rfl)) _
 | stop =>
  refine leaves_cons (f := 68) (args := #[.pointer (some ⟨w.heap.size,0,none⟩), .pointer (some ⟨w.heap.size + 1,0,none⟩)]) (by simp) (by simp [go_sem]) ?_
  refine (met_stop _ _ c a _ _ _ [] _ z0 z1 z2 y0 y1 y2 (by omega)).mono ?_
  rintro e u' w'' ⟨rfl,rfl,rfl⟩
  refine ⟨.tuple #[faultV c a, .bool true], ?_,_,w1,c,a,true,hR, .stop c a,rfl,ho,by simp, ?_⟩
  · simp [results,Try.results54,go_sem,z0,z1,z2,faultV]
  · exact (((Only.refl _ _).setCell (Or.inr (Or.inl rfl)) _).setCell (Or.inr (Or.inl rfl)) _).setCell (Or.inr (Or.inr rfl)) _
end Go.Proofs.Ytdaikppppkbfoab
