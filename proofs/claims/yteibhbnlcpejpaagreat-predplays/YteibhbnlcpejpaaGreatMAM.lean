import Derived.Test.YteibhbnlcpejpaaGreatProg
import Derived.WalkKit
import Derived.Defers
import Derived.Recover
namespace Go.Proofs.YteibhbnlcpejpaaGreat
open Go.RowKit
def faultV (c a: Int): Value := .agg #[.int .i64 c, .int .i64 a]
def stopped (c a: Int): List PanicEntry := [{ v := .iface 155 (faultV c a),recovered := false }]
theorem stop_ok (a: Int) (w: World) :
 Calls Tryz.prog 189 #[.int .i64 0, .int .i64 a] w fun e w' => e = .returned (.tuple #[]) /\ w' = w := by
 go_enter Tryz.func189,Tryz.ntmps189
 go_wp2
 go_end0
 exact ⟨rfl,rfl⟩
theorem stop_no (c a: Int) (hc: (c != 0) = true) (w: World) :
 Calls Tryz.prog 189 #[.int .i64 c, .int .i64 a] w fun e w' => e = .panicked (stopped c a) /\ w' = w := by
 go_enter Tryz.func189,Tryz.ntmps189
 go_wp2
 exact ⟨rfl,rfl,rfl⟩
theorem check_ok (w: World) :
 Calls Tryz.prog 151 #[.int .i64 0] w fun e w' => e = .returned (.tuple #[]) /\ w' = w := by
 go_enter Tryz.func151,Tryz.ntmps151
 go_wp2_with (go_at_call 189; refine (stop_ok _ _).mono ?_; rintro e w' ⟨rfl,rfl⟩)
 go_end0
 exact ⟨rfl,rfl⟩
theorem check_no (c: Int) (hc: (c != 0) = true) (w: World) :
 Calls Tryz.prog 151 #[.int .i64 c] w fun e w' => e = .panicked (stopped c 0) /\ w' = w := by
 go_enter Tryz.func151,Tryz.ntmps151
 go_wp2_with (go_at_call 189; refine (stop_no _ _ hc _).mono ?_; rintro e w' ⟨rfl,rfl⟩)
 exact ⟨rfl,rfl,rfl⟩
theorem met_idle (p q: Addr) (w: World) :
 CallsD Tryz.prog 149 #[.pointer (some p), .pointer (some q)] .returning w fun e u' w' => e = .returned (.tuple #[]) /\ u' = .returning /\ w' = w := by
 refine callsD_of_wpS Tryz.func149 rfl fun c₀ cs hu => ?_
 apply wpS_seq
 apply wpS_region
 simp [wpOpsS,go_sem,recoverD,hu,Tryz.ntmps149,Exit.thenS]
 apply wpS_of_wp
 simp only [Array.replicate_succ,Array.replicate_zero,List.push_toArray,List.append_toArray,List.nil_append,List.cons_append,List.setIfInBounds_toArray,List.set_cons_succ,List.set_cons_zero]
 go_wp2
 exact ⟨rfl, .returning,by cases c₀; simp_all, .tuple #[],results_none rfl _ _ _,rfl,rfl,rfl⟩
theorem assert_fault (v: Value) (w: World): (Instr.typeAssert (.iface 155 v) 20 155 true).run Tryz.prog w = .ok (.tuple #[v, .bool true]) w := by
 simp [Instr.typeAssert,run_underlying Tryz.underlying155]
theorem met_stop (b d: Nat) (c a: Int) (x0 x1 x2: Value) (older: List PanicEntry) (w: World) (h0: w.cell? ⟨b,0,none⟩ = some x0) (h1: w.cell? ⟨b,1,none⟩ = some x1)
 (h2: w.cell? ⟨d,0,none⟩ = some x2) (f0: w.frozen? ⟨b,0,none⟩ = false) (f1: w.frozen? ⟨b,1,none⟩ = false) (f2: w.frozen? ⟨d,0,none⟩ = false) (hbd: b ≠ d) :
 CallsD Tryz.prog 149 #[.pointer (some ⟨b,0,none⟩), .pointer (some ⟨d,0,none⟩)] (.panicking ({ v := .iface 155 (faultV c a),recovered := false } :: older)) w fun e u' w' =>
  e = .returned (.tuple #[]) /\ u' = .panicking ({ v := .iface 155 (faultV c a),recovered := true } :: older) /\ w' = ((w.setCell ⟨b,0,none⟩ (.int .i64 c)).setCell ⟨b,1,none⟩ (.int .i64 a)).setCell ⟨d,0,none⟩ (.bool true) := by
 refine callsD_of_wpS Tryz.func149 rfl fun c₀ cs hu => ?_
 apply wpS_seq
 apply wpS_region
 simp [wpOpsS,go_sem,recoverD,hu,Tryz.ntmps149,Exit.thenS]
 apply wpS_of_wp
 simp only [Array.replicate_succ,Array.replicate_zero,List.push_toArray,List.append_toArray,List.nil_append,List.cons_append,List.setIfInBounds_toArray,List.set_cons_succ,List.set_cons_zero,faultV]
 have hta := assert_fault
 go_wp2
 trace_state
 exact ⟨rfl,_,rfl, .tuple #[],results_none rfl _ _ _,rfl,rfl,rfl⟩
end Go.Proofs.YteibhbnlcpejpaaGreat
