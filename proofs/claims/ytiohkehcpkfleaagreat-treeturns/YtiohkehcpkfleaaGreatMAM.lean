import Derived.Test.YtiohkehcpkfleaaGreatProg
import Derived.Defers
import Derived.Recover
import Derived.Test.YtiohkehcpkfleaaGreatMAL
namespace Go.Proofs.YtiohkehcpkfleaaGreat.L1
open Go.RowKit
def faultV (c a : Int) : Value := .agg #[.int .i64 c, .int .i64 a]
def stopped (c a : Int) : List PanicEntry := [{ v := .iface 93 (faultV c a), recovered := false }]
theorem stop_ok (a : Int) (w : World) :
 Calls Tryz.prog 75 #[.int .i64 0, .int .i64 a] w fun e w' => e = .returned (.tuple #[]) /\ w' = w := by
 go_enter Tryz.func75, Tryz.ntmps75
 go_wp2
 go_end0
 exact ⟨rfl, rfl⟩
theorem stop_no (c a : Int) (hc : (c != 0) = true) (w : World) :
 Calls Tryz.prog 75 #[.int .i64 c, .int .i64 a] w fun e w' => e = .panicked (stopped c a) /\ w' = w := by
 go_enter Tryz.func75, Tryz.ntmps75
 go_wp2
 exact ⟨rfl, rfl, rfl⟩
theorem check_ok (w : World) :
 Calls Tryz.prog 52 #[.int .i64 0] w fun e w' => e = .returned (.tuple #[]) /\ w' = w := by
 go_enter Tryz.func52, Tryz.ntmps52
 go_wp2_with (go_at_call 75; refine (stop_ok _ _).mono ?_; rintro e w' ⟨rfl, rfl⟩)
 go_end0
 exact ⟨rfl, rfl⟩
theorem check_no (c : Int) (hc : (c != 0) = true) (w : World) :
 Calls Tryz.prog 52 #[.int .i64 c] w fun e w' => e = .panicked (stopped c 0) /\ w' = w := by
 go_enter Tryz.func52, Tryz.ntmps52
 go_wp2_with (go_at_call 75; refine (stop_no _ _ hc _).mono ?_; rintro e w' ⟨rfl, rfl⟩)
 exact ⟨rfl, rfl, rfl⟩
theorem met_idle (p q : Addr) (w : World) :
 CallsD Tryz.prog 92 #[.pointer (some p), .pointer (some q)] .returning w fun e u' w' => e = .returned (.tuple #[]) /\ u' = .returning /\ w' = w := by
 refine callsD_of_wpS Tryz.func92 rfl fun c₀ cs hu => ?_
 apply wpS_seq
 apply wpS_region
 simp [wpOpsS, go_sem, recoverD, hu, Tryz.ntmps92, Exit.thenS]
 apply wpS_of_wp
 simp only [Array.replicate_succ, Array.replicate_zero, List.push_toArray, List.append_toArray, List.nil_append, List.cons_append, List.setIfInBounds_toArray, List.set_cons_succ, List.set_cons_zero]
 go_wp2
 exact ⟨rfl, .returning, by cases c₀; simp_all, .tuple #[], results_none rfl _ _ _, rfl, rfl, rfl⟩
theorem assert_fault (v : Value) (w : World) : (Instr.typeAssert (.iface 93 v) 20 93 true).run Tryz.prog w = .ok (.tuple #[v, .bool true]) w := by
 simp [Instr.typeAssert, run_underlying Tryz.underlying93]
theorem met_stop (b d : Nat) (c a : Int) (x0 x1 x2 : Value) (older : List PanicEntry) (w : World) (h0 : w.cell? ⟨b, 0, none⟩ = some x0) (h1 : w.cell? ⟨b, 1, none⟩ = some x1)
 (h2 : w.cell? ⟨d, 0, none⟩ = some x2) (f0 : w.frozen? ⟨b, 0, none⟩ = false) (f1 : w.frozen? ⟨b, 1, none⟩ = false) (f2 : w.frozen? ⟨d, 0, none⟩ = false) (hbd : b ≠ d) :
 CallsD Tryz.prog 92 #[.pointer (some ⟨b, 0, none⟩), .pointer (some ⟨d, 0, none⟩)] (.panicking ({ v := .iface 93 (faultV c a), recovered := false } :: older)) w fun e u' w' =>
  e = .returned (.tuple #[]) /\ u' = .panicking ({ v := .iface 93 (faultV c a), recovered := true } :: older) /\ w' = ((w.setCell ⟨b, 0, none⟩ (.int .i64 c)).setCell ⟨b, 1, none⟩ (.int .i64 a)).setCell ⟨d, 0, none⟩ (.bool true) := by
 refine callsD_of_wpS Tryz.func92 rfl fun c₀ cs hu => ?_
 apply wpS_seq
 apply wpS_region
 simp [wpOpsS, go_sem, recoverD, hu, Tryz.ntmps92, Exit.thenS]
 apply wpS_of_wp
 simp only [Array.replicate_succ, Array.replicate_zero, List.push_toArray, List.append_toArray, List.nil_append, List.cons_append, List.setIfInBounds_toArray, List.set_cons_succ, List.set_cons_zero, faultV]
 have hta := assert_fault
 go_wp2
 trace_state
 exact ⟨rfl, _, rfl, .tuple #[], results_none rfl _ _ _, rfl, rfl, rfl⟩
abbrev caughtW (w : World) : World := (w.alloc (.cells #[.int .i64 0, .int .i64 0] 93)).alloc (.cells #[.bool false] 4)
inductive Came : Ending -> Int -> Int -> Bool -> Prop
 | done : Came (.returned (.tuple #[])) 0 0 false
 | stop (c a : Int) : Came (.panicked (stopped c a)) c a true
theorem hide {p : Prop} (h : p) : Hid p := h
theorem unhide {p : Prop} (h : Hid p) : p := h
theorem caughtW_cells {w w1 : World} {S : Nat -> Prop} (ho : Only S (caughtW w) w1) (hS : ¬ S w.heap.size) (hS' : ¬ S (w.heap.size + 1)) :
 w1.cell? ⟨w.heap.size, 0, none⟩ = some (.int .i64 0) /\ w1.cell? ⟨w.heap.size, 1, none⟩ = some (.int .i64 0) /\ w1.cell? ⟨w.heap.size + 1, 0, none⟩ = some (.bool false) /\
 w1.frozen? ⟨w.heap.size, 0, none⟩ = false /\ w1.frozen? ⟨w.heap.size, 1, none⟩ = false /\ w1.frozen? ⟨w.heap.size + 1, 0, none⟩ = false /\ w.heap.size + 1 < w1.heap.size := by
 have hz := ho.size
 simp at hz
 refine ⟨?_, ?_, ?_, ?_, ?_, ?_, by omega⟩
 · rw [ho.cell (by simp; omega) hS]; simp [go_sem]
 · rw [ho.cell (by simp; omega) hS]; simp [go_sem]
 · rw [ho.cell (by simp) hS']; simp [go_sem]
 · rw [ho.frozen (by simp; omega) hS]; simp [go_sem]
 · rw [ho.frozen (by simp; omega) hS]; simp [go_sem]
 · rw [ho.frozen (by simp) hS']; simp [go_sem]
theorem caught_any (g : FuncId) (hg : ∀ args w, (callFunc g args).run Tryz.prog w = .ok (.enter g args) w) (cap : Array Value) (w : World) (S : Nat -> Prop) (hS : ¬ S w.heap.size) (hS' : ¬ S (w.heap.size + 1)) (R : Ending -> World -> Prop)
 (h : Calls Tryz.prog g cap (caughtW w) fun e w1 => R e w1 /\ Only S (caughtW w) w1 /\ ∃ c a t, Came e c a t) :
 Calls Tryz.prog 70 #[.func (.func g) #[] cap] w fun e w' => ∃ e1 w1 c a t, R e1 w1 /\ Came e1 c a t /\ e = .returned (.tuple #[faultV c a, .bool t]) /\ Only S (caughtW w) w1 /\
  w'.heap.size = w1.heap.size /\ Only (fun k => k = w.heap.size \/ k = w.heap.size + 1) w1 w' := by
 have hmf : ∀ (fn : Fn) (first cap : Array Value) (w : World), (Instr.makeFunc fn first cap).run Tryz.prog w = .ok (.func fn first cap) w := fun _ _ _ _ => rfl
 go_enter_defers Tryz.func70, Tryz.ntmps70
 have H := hide h
 clear h
 go_wp2_with fail
 refine (unhide H).mono ?_
 rintro e w1 ⟨hR, ho, c, a, t, hc⟩
 obtain ⟨z0, z1, z2, y0, y1, y2, hz⟩ := caughtW_cells ho hS hS'
 cases hc with
 | done =>
  go_wp2
  refine leaves_cons (f := 92) (args := #[.pointer (some ⟨w.heap.size, 0, none⟩), .pointer (some ⟨w.heap.size + 1, 0, none⟩)]) (by simp) (by simp [go_sem]) ?_
  refine (met_idle _ _ _).mono ?_
  rintro e u' w'' ⟨rfl, rfl, rfl⟩
  refine ⟨.tuple #[faultV 0 0, .bool false], ?_, _, w1, 0, 0, false, hR, .done, rfl, ho, by simp, ?_⟩
  · simp [results, Tryz.results70, go_sem, z0, z1, z2, faultV]
  · exact (((Only.refl _ _).setCell (Or.inr (Or.inl rfl)) _).setCell (Or.inr (Or.inl rfl)) _).setCell (Or.inr (Or.inr rfl)) _
 | stop =>
  refine leaves_cons (f := 92) (args := #[.pointer (some ⟨w.heap.size, 0, none⟩), .pointer (some ⟨w.heap.size + 1, 0, none⟩)]) (by simp) (by simp [go_sem]) ?_
  refine (met_stop _ _ c a _ _ _ [] _ z0 z1 z2 y0 y1 y2 (by omega)).mono ?_
  rintro e u' w'' ⟨rfl, rfl, rfl⟩
  refine ⟨.tuple #[faultV c a, .bool true], ?_, _, w1, c, a, true, hR, .stop c a, rfl, ho, by simp, ?_⟩
  · simp [results, Tryz.results70, go_sem, z0, z1, z2, faultV]
  · exact (((Only.refl _ _).setCell (Or.inr (Or.inl rfl)) _).setCell (Or.inr (Or.inl rfl)) _).setCell (Or.inr (Or.inr rfl)) _
abbrev catchW (w : World) : World := caughtW (w.alloc (.cells #[.int .i64 0, .int .i64 0] 93))
theorem below_catchW (w : World) : Below w.heap.size w (catchW w) :=
 (((Below.refl _ _).alloc (Nat.le_refl _) _).alloc (by simp) _).alloc (by simp; omega) _
abbrev OnlyAt (b n : Nat) (w w' : World) : Prop := Only (fun k => b <= k /\ k < b + n) w w'
theorem Only.through {S : Nat -> Prop} {w W w1 w' : World} {n : Nat} (hb : Below w.heap.size w W) (ho : Only S W w1) (hat : OnlyAt w.heap.size n w1 w') : Only S w w' := by
 refine ⟨hat.os.trans (ho.os.trans hb.os), hat.tape.trans (ho.tape.trans hb.tape), hat.output.trans (ho.output.trans hb.output), ?_, fun k hk hs => ?_⟩
 · have := hb.size; have := ho.size; have := hat.size; omega
 · have h1 := hb.size
   have h2 := ho.size
   rw [hat.block k (by omega) (by omega), ho.block k (by omega) hs, hb.block k hk]
end Go.Proofs.YtiohkehcpkfleaaGreat.L1
namespace Go.Proofs.YtiohkehcpkfleaaGreat.L1
open Go.RowKit
abbrev undoW (w : World) : World := caughtW (w.alloc (.cells #[.int .i64 0, .int .i64 0] 93))
theorem below_caughtW (w : World) : Below w.heap.size w (caughtW w) := ((Below.refl _ _).alloc (Nat.le_refl _) _).alloc (by simp) _
theorem caught_bound (g : FuncId) (hg : ∀ args w, (callFunc g args).run Tryz.prog w = .ok (.enter g args) w) (r : Value) (w : World) (S : Nat -> Prop) (hS : ¬ S w.heap.size) (hS' : ¬ S (w.heap.size + 1)) (R : Ending -> World -> Prop)
 (h : Calls Tryz.prog g #[r] (caughtW w) fun e w1 => R e w1 /\ Only S (caughtW w) w1 /\ ∃ c a t, Came e c a t) :
 Calls Tryz.prog 70 #[.func (.func g) #[r] #[]] w fun e w' => ∃ e1 w1 c a t, R e1 w1 /\ Came e1 c a t /\ e = .returned (.tuple #[faultV c a, .bool t]) /\ Only S (caughtW w) w1 /\
  w'.heap.size = w1.heap.size /\ Only (fun k => k = w.heap.size \/ k = w.heap.size + 1) w1 w' := by
 have hmf : ∀ (fn : Fn) (first cap : Array Value) (w : World), (Instr.makeFunc fn first cap).run Tryz.prog w = .ok (.func fn first cap) w := fun _ _ _ _ => rfl
 go_enter_defers Tryz.func70, Tryz.ntmps70
 have H := hide h
 clear h
 go_wp2_with fail
 refine (unhide H).mono ?_
 rintro e w1 ⟨hR, ho, c, a, t, hc⟩
 obtain ⟨z0, z1, z2, y0, y1, y2, hz⟩ := caughtW_cells ho hS hS'
 cases hc with
 | done =>
  go_wp2
  refine leaves_cons (f := 92) (args := #[.pointer (some ⟨w.heap.size, 0, none⟩), .pointer (some ⟨w.heap.size + 1, 0, none⟩)]) (by simp) (by simp [go_sem]) ?_
  refine (met_idle _ _ _).mono ?_
  rintro e u' w'' ⟨rfl, rfl, rfl⟩
  refine ⟨.tuple #[faultV 0 0, .bool false], ?_, _, w1, 0, 0, false, hR, .done, rfl, ho, by simp, ?_⟩
  · simp [results, Tryz.results70, go_sem, z0, z1, z2, faultV]
  · exact (((Only.refl _ _).setCell (Or.inr (Or.inl rfl)) _).setCell (Or.inr (Or.inl rfl)) _).setCell (Or.inr (Or.inr rfl)) _
 | stop =>
  refine leaves_cons (f := 92) (args := #[.pointer (some ⟨w.heap.size, 0, none⟩), .pointer (some ⟨w.heap.size + 1, 0, none⟩)]) (by simp) (by simp [go_sem]) ?_
  refine (met_stop _ _ c a _ _ _ [] _ z0 z1 z2 y0 y1 y2 (by omega)).mono ?_
  rintro e u' w'' ⟨rfl, rfl, rfl⟩
  refine ⟨.tuple #[faultV c a, .bool true], ?_, _, w1, c, a, true, hR, .stop c a, rfl, ho, by simp, ?_⟩
  · simp [results, Tryz.results70, go_sem, z0, z1, z2, faultV]
  · exact (((Only.refl _ _).setCell (Or.inr (Or.inl rfl)) _).setCell (Or.inr (Or.inl rfl)) _).setCell (Or.inr (Or.inr rfl)) _
end Go.Proofs.YtiohkehcpkfleaaGreat.L1
namespace Go.Proofs.YtiohkehcpkfleaaGreat.L4
open Go.RowKit
open L1 (caughtW caught_any caught_bound catchW below_catchW undoW below_caughtW Came faultV stopped hide unhide OnlyAt)
theorem pk_of_only {S : Nat -> Prop} {w w' : World} (ho : Only S w w') (h : ∀ k, S k -> k < w.heap.size -> ∃ cs t, w.heap[k]? = some (.cells cs t (0, 0)) /\ t ≠ 112) : Pk w w' := fun k cs hk => by
 have hlt := (Array.getElem?_eq_some_iff.1 hk).1
 by_cases hs : S k
 · obtain ⟨cs', t, h1, h2⟩ := h k hs hlt
   rw [hk] at h1
   cases h1
   exact absurd rfl h2
 · exact ho.block k hlt hs
theorem Moves.after {σ : Type} {A : St σ} {s s' : σ} {w W w1 w' : World} {n : Nat} (hP : A.P s w) (hb : Below w.heap.size w W) (hn : w.heap.size + n <= W.heap.size) (hP1 : A.P s' w1)
 (hm : Moves A s s' W w1) (hat : OnlyAt w.heap.size n w1 w') (hpk : Pk w1 w') : A.P s' w' /\ Moves A s s' w w' := by
 refine ⟨A.keep s' w1 w' hP1 (fun k hk => hat.block k (A.lt _ _ _ hP1 hk) fun x => ?_) hpk, L1.Only.through hb hm.only hat, fun k hk => ?_⟩
 · rcases hm.own k hk with y | y
   · have := A.lt _ _ _ hP y; omega
   · omega
 · rcases hm.own k hk with y | y
   · exact Or.inl y
   · exact Or.inr (by omega)
theorem Moves.tail {σ : Type} {A : St σ} {s s' : σ} {w w1 w' : World} {S : Nat -> Prop} (hP : A.P s' w1) (hm : Moves A s s' w w1) (ho : Only S w1 w') (hS : ∀ k, S k -> w.heap.size <= k /\ ¬ A.own s' k) (hpk : Pk w1 w') : A.P s' w' /\ Moves A s s' w w' := by
 refine ⟨A.keep s' w1 w' hP (fun k hk => ho.block k (A.lt _ _ _ hP hk) fun x => (hS k x).2 hk) hpk, ⟨ho.os.trans hm.only.os, ho.tape.trans hm.only.tape, ho.output.trans hm.only.output, Nat.le_trans hm.only.size ho.size, fun k hk hs => ?_⟩, hm.own⟩
 have := hm.only.size
 rw [ho.block k (by omega) fun x => by have := (hS k x).1; omega]
 exact hm.only.block k hk hs
theorem caughtW_tags {w w1 : World} {S : Nat -> Prop} (ho : Only S (caughtW w) w1) (hS : ¬ S w.heap.size) (hS' : ¬ S (w.heap.size + 1)) (k : Nat) (hk : k = w.heap.size \/ k = w.heap.size + 1) : ∃ cs t, w1.heap[k]? = some (.cells cs t (0, 0)) /\ t ≠ 112 := by
 have e0 : (caughtW w).heap[w.heap.size]? = some (.cells #[.int .i64 0, .int .i64 0] 93 (0, 0)) := by simp [World.alloc, Array.getElem?_push, -World.alloc_eq]
 have e1 : (caughtW w).heap[w.heap.size + 1]? = some (.cells #[.bool false] 4 (0, 0)) := by
  have h := heap_alloc_new (w.alloc (.cells #[.int .i64 0, .int .i64 0] 93)) (.cells #[.bool false] 4)
  rw [show (w.alloc (.cells #[.int .i64 0, .int .i64 0] 93)).heap.size = w.heap.size + 1 by simp] at h
  exact h
 rcases hk with rfl | rfl
 · exact ⟨_, _, (ho.block _ (by simp; omega) hS).trans e0, by decide⟩
 · exact ⟨_, _, (ho.block _ (by simp) hS').trans e1, by decide⟩
theorem caught_st {σ : Type} (A : St σ) (g : FuncId) (hg : ∀ args w, (callFunc g args).run Tryz.prog w = .ok (.enter g args) w) (cap : Array Value) (w : World) (s : σ) (hP : A.P s w) (T : Ending -> σ -> Prop)
 (h : Calls Tryz.prog g cap (caughtW w) fun e w1 => ∃ s', T e s' /\ A.P s' w1 /\ Moves A s s' (caughtW w) w1 /\ ∃ c a t, Came e c a t) :
 Calls Tryz.prog 70 #[.func (.func g) #[] cap] w fun e w' => ∃ e1 s' c a t, T e1 s' /\ Came e1 c a t /\ e = .returned (.tuple #[faultV c a, .bool t]) /\ A.P s' w' /\ Moves A s s' w w' := by
 have hno : ∀ k, w.heap.size <= k -> ¬ A.own s k := fun k hk ho => by have := A.lt _ _ _ hP ho; omega
 refine (caught_any g hg cap w (A.own s) (hno _ (Nat.le_refl _)) (hno _ (by omega)) (fun e w1 => ∃ s', T e s' /\ A.P s' w1 /\ Moves A s s' (caughtW w) w1) (h.mono ?_)).mono ?_
 · rintro e w1 ⟨s', hT, hP', hm, hc⟩
   exact ⟨⟨s', hT, hP', hm⟩, hm.only, hc⟩
 · rintro e w' ⟨e1, w1, c, a, t, ⟨s', hT, hP', hm⟩, hc, he, ho, hsz, hat⟩
   have hb : Below w.heap.size w (caughtW w) := ((Below.refl _ _).alloc (Nat.le_refl _) _).alloc (by simp) _
   obtain ⟨x, y⟩ := Moves.after (n := 2) hP hb (by simp) hP' hm (hat.weaken fun k _ hk => by omega) (pk_of_only hat fun k hk _ => caughtW_tags ho (hno _ (Nat.le_refl _)) (hno _ (by omega)) k hk)
   exact ⟨e1, s', c, a, t, hT, hc, he, x, y⟩
theorem caught_stM {σ : Type} (A : St σ) (g : FuncId) (hg : ∀ args w, (callFunc g args).run Tryz.prog w = .ok (.enter g args) w) (r : Value) (w : World) (s : σ) (hP : A.P s w) (T : Ending -> σ -> Prop)
 (h : Calls Tryz.prog g #[r] (caughtW w) fun e w1 => ∃ s', T e s' /\ A.P s' w1 /\ Moves A s s' (caughtW w) w1 /\ ∃ c a t, Came e c a t) :
 Calls Tryz.prog 70 #[.func (.func g) #[r] #[]] w fun e w' => ∃ e1 s' c a t, T e1 s' /\ Came e1 c a t /\ e = .returned (.tuple #[faultV c a, .bool t]) /\ A.P s' w' /\ Moves A s s' w w' := by
 have hno : ∀ k, w.heap.size <= k -> ¬ A.own s k := fun k hk ho => by have := A.lt _ _ _ hP ho; omega
 refine (caught_bound g hg r w (A.own s) (hno _ (Nat.le_refl _)) (hno _ (by omega)) (fun e w1 => ∃ s', T e s' /\ A.P s' w1 /\ Moves A s s' (caughtW w) w1) (h.mono ?_)).mono ?_
 · rintro e w1 ⟨s', hT, hP', hm, hc⟩
   exact ⟨⟨s', hT, hP', hm⟩, hm.only, hc⟩
 · rintro e w' ⟨e1, w1, c, a, t, ⟨s', hT, hP', hm⟩, hc, he, ho, hsz, hat⟩
   have hb : Below w.heap.size w (caughtW w) := ((Below.refl _ _).alloc (Nat.le_refl _) _).alloc (by simp) _
   obtain ⟨x, y⟩ := Moves.after (n := 2) hP hb (by simp) hP' hm (hat.weaken fun k _ hk => by omega) (pk_of_only hat fun k hk _ => caughtW_tags ho (hno _ (Nat.le_refl _)) (hno _ (by omega)) k hk)
   exact ⟨e1, s', c, a, t, hT, hc, he, x, y⟩
theorem undo_st {σ : Type} (A : St σ) (g : FuncId) (hg : ∀ args w, (callFunc g args).run Tryz.prog w = .ok (.enter g args) w) (cap : Array Value)
 (g2 : FuncId) (hg2 : ∀ args w, (callFunc g2 args).run Tryz.prog w = .ok (.enter g2 args) w) (r2 : Value) (w : World) (s : σ) (hP : A.P s w) (T : Ending -> σ -> Prop) (T2 : σ -> Ending -> σ -> Prop)
 (h : Calls Tryz.prog g cap (undoW w) fun e w1 => ∃ s', T e s' /\ A.P s' w1 /\ Moves A s s' (undoW w) w1 /\ ∃ c a t, Came e c a t)
 (h2 : ∀ W s' c a, T (.panicked (stopped c a)) s' -> A.P s' W -> Moves A s s' w W -> Calls Tryz.prog g2 #[r2] W fun e w1 => ∃ s'', T2 s' e s'' /\ A.P s'' w1 /\ Moves A s' s'' W w1 /\ ∃ c a t, Came e c a t) :
 Calls Tryz.prog 47 #[.func (.func g) #[] cap, .func (.func g2) #[r2] #[]] w fun e w' => ∃ s', A.P s' w' /\ Moves A s s' w w' /\
  ((T (.returned (.tuple #[])) s' /\ e = .returned (faultV 0 0)) \/
   ∃ c a s1 e2 c2 a2 t2, T (.panicked (stopped c a)) s1 /\ T2 s1 e2 s' /\ Came e2 c2 a2 t2 /\ e = .returned (if t2 then faultV c2 a2 else faultV c a)) := by
 have hb0 : Below w.heap.size w (w.alloc (.cells #[.int .i64 0, .int .i64 0] 93)) := (Below.refl _ _).alloc (Nat.le_refl _) _
 have H := hide (caught_st A g hg cap (w.alloc (.cells #[.int .i64 0, .int .i64 0] 93)) s (A.below hP hb0) T h)
 have H2 := hide h2
 clear h h2 hg
 go_enter Tryz.func47, Tryz.ntmps47
 go_wp2_with fail
 refine (unhide H).mono ?_
 rintro e w2 ⟨e1, s', c, a, t, hT, hc, rfl, hP', hm⟩
 clear H
 have hz := hm.only.size
 simp at hz
 have hl : w.heap.size < w2.heap.size := by omega
 have hno : ¬ A.own s w.heap.size := fun x => by have := A.lt _ _ _ hP x; omega
 have q0 : w2.cell? ⟨w.heap.size, 0, none⟩ = some (.int .i64 0) := by rw [hm.only.cell (by simp) hno]; simp [go_sem]
 have q1 : w2.cell? ⟨w.heap.size, 1, none⟩ = some (.int .i64 0) := by rw [hm.only.cell (by simp) hno]; simp [go_sem]
 have f0 : w2.frozen? ⟨w.heap.size, 0, none⟩ = false := by rw [hm.only.frozen (by simp) hno]; simp [go_sem]
 have f1 : w2.frozen? ⟨w.heap.size, 1, none⟩ = false := by rw [hm.only.frozen (by simp) hno]; simp [go_sem]
 have hno' : ¬ A.own s' w.heap.size := fun x => by
  rcases hm.own _ x with y | y
  · exact hno y
  · simp at y; omega
 have hm2 : Moves A s s' w w2 := (Moves.below hb0).trans hm
 have tagw2 : ∃ cs t, w2.heap[w.heap.size]? = some (.cells cs t (0, 0)) /\ t ≠ 112 := ⟨#[.int .i64 0, .int .i64 0], 93, (hm.only.block _ (by simp) hno).trans (heap_alloc_new _ _), by decide⟩
 cases hc with
 | done =>
  simp only [faultV]
  go_wp2
  refine bodyPost_ret (v := faultV 0 0) (by simp [results, Tryz.results47, go_sem, q0, q1, hl, faultV]) rfl ?_
  have hO := ((((Only.refl (· = w.heap.size) w2).setCell (p := ⟨w.heap.size, 0, none⟩) (Or.inr rfl) (.int .i64 0)).setCell (p := ⟨w.heap.size, 1, none⟩) (Or.inr rfl) (.int .i64 0)).alloc (.cells #[.int .i64 0, .int .i64 0] 93))
  obtain ⟨x, y⟩ := Moves.tail (S := (· = w.heap.size)) hP' hm2 hO (by rintro k rfl; exact ⟨Nat.le_refl _, hno'⟩) (pk_of_only hO fun k hk _ => by subst hk; exact tagw2)
  exact ⟨s', x, y, Or.inl ⟨hT, rfl⟩⟩
 | stop =>
  simp only [faultV]
  go_wp2_with fail
  have hb2 : Below w2.heap.size w2 (w2.alloc (.cells #[.int .i64 c, .int .i64 a] 93)) := (Below.refl _ _).alloc (Nat.le_refl _) _
  have hm3 : Moves A s s' w (w2.alloc (.cells #[.int .i64 c, .int .i64 a] 93)) := hm2.trans (Moves.below hb2)
  have hP3 := A.below hP' hb2
  have hb3 := below_caughtW (w2.alloc (.cells #[.int .i64 c, .int .i64 a] 93))
  refine (caught_stM A g2 hg2 r2 _ s' hP3 (T2 s') (unhide H2 _ s' c a hT (A.below hP3 hb3) (hm3.trans (Moves.below hb3)))).mono ?_
  rintro e w4 ⟨e2, s2, c2, a2, t2, hT2, hc2, rfl, hP4, hm4⟩
  have hz4 := hm4.only.size
  simp at hz4
  have hl4 : w.heap.size < w4.heap.size := by omega
  have hl5 : w2.heap.size < w4.heap.size := by omega
  have hx : ¬ A.own s' w2.heap.size := fun x => by have := A.lt _ _ _ hP' x; omega
  have r0 : w4.cell? ⟨w.heap.size, 0, none⟩ = some (.int .i64 0) := by rw [hm4.only.cell (by simp; omega) hno']; simp [go_sem, hl, q0]
  have r1 : w4.cell? ⟨w.heap.size, 1, none⟩ = some (.int .i64 0) := by rw [hm4.only.cell (by simp; omega) hno']; simp [go_sem, hl, q1]
  have x0 : w4.cell? ⟨w2.heap.size, 0, none⟩ = some (.int .i64 c) := by rw [hm4.only.cell (by simp) hx]; simp [go_sem]
  have x1 : w4.cell? ⟨w2.heap.size, 1, none⟩ = some (.int .i64 a) := by rw [hm4.only.cell (by simp) hx]; simp [go_sem]
  have g0 : w4.frozen? ⟨w.heap.size, 0, none⟩ = false := by rw [hm4.only.frozen (by simp; omega) hno']; simp [go_sem, hl, f0]
  have g1 : w4.frozen? ⟨w.heap.size, 1, none⟩ = false := by rw [hm4.only.frozen (by simp; omega) hno']; simp [go_sem, hl, f1]
  have hno4 : ¬ A.own s2 w.heap.size := fun x => by
   rcases hm4.own _ x with y | y
   · exact hno' y
   · simp at y; omega
  have tagw4 : ∃ cs t, w4.heap[w.heap.size]? = some (.cells cs t (0, 0)) /\ t ≠ 112 := by
   obtain ⟨cs, t, h1, h2⟩ := tagw2
   exact ⟨cs, t, (hm4.only.block _ (by simp; omega) hno').trans (((below_alloc w2 _).block _ hl).trans h1), h2⟩
  have hm5 := hm3.trans hm4
  clear hm3 hP3 hb3 hb2 hm4 hm2 hm q0 q1 f0 f1 H2 hg2
  cases hc2 with
  | done =>
   simp only [faultV]
   go_wp2
   refine bodyPost_ret (v := faultV c a) (by simp [results, Tryz.results47, go_sem, r0, r1, hl4, faultV]) rfl ?_
   have hO := ((((Only.refl (· = w.heap.size) w4).setCell (p := ⟨w.heap.size, 0, none⟩) (Or.inr rfl) (.int .i64 c)).setCell (p := ⟨w.heap.size, 1, none⟩) (Or.inr rfl) (.int .i64 a)).alloc (.cells #[.int .i64 0, .int .i64 0] 93))
   obtain ⟨x, y⟩ := Moves.tail (S := (· = w.heap.size)) hP4 hm5 hO (by rintro k rfl; exact ⟨Nat.le_refl _, hno4⟩) (pk_of_only hO fun k hk _ => by subst hk; exact tagw4)
   exact ⟨s2, x, y, Or.inr ⟨c, a, s', _, 0, 0, false, hT, hT2, .done, rfl⟩⟩
  | stop =>
   simp only [faultV]
   go_wp2
   refine bodyPost_ret (v := faultV c2 a2) (by simp [results, Tryz.results47, go_sem, r0, r1, hl4, faultV]) rfl ?_
   have hO := ((((Only.refl (· = w.heap.size) w4).setCell (p := ⟨w.heap.size, 0, none⟩) (Or.inr rfl) (.int .i64 c2)).setCell (p := ⟨w.heap.size, 1, none⟩) (Or.inr rfl) (.int .i64 a2)).alloc (.cells #[.int .i64 c2, .int .i64 a2] 93))
   obtain ⟨x, y⟩ := Moves.tail (S := (· = w.heap.size)) hP4 hm5 hO (by rintro k rfl; exact ⟨Nat.le_refl _, hno4⟩) (pk_of_only hO fun k hk _ => by subst hk; exact tagw4)
   exact ⟨s2, x, y, Or.inr ⟨c, a, s', _, c2, a2, true, hT, hT2, .stop c2 a2, rfl⟩⟩
end Go.Proofs.YtiohkehcpkfleaaGreat.L4
