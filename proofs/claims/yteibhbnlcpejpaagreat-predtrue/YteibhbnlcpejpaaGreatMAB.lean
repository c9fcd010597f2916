import Derived.WalkKit
import Derived.Below
import Derived.Test.YteibhbnlcpejpaaGreatProg
namespace Go.Proofs.YteibhbnlcpejpaaGreat
open Go.RowKit
def valV (k n: Int) (s: ByteArray): Value := .agg #[.int .i64 k, .int .i64 n, .string s]
def rightB (k n: Int) (s: ByteArray): Bool :=
 if k == 0 then n == 0 && s.size == 0
 else if k == 1 then (n == 0 || n == 1) && s.size == 0
 else if k == 2 then s.size == 0
 else k == 3 && n == 0 && decide (s.size <= 24)
def ofV (a: Int): Value := if a == 0 then valV 1 0 ⟨#[]⟩ else if a == 1 then valV 1 1 ⟨#[]⟩ else valV 0 0 ⟨#[]⟩
def truthT (k n: Int): Int := if k == 0 then 2 else if k == 1 && n == 0 then 0 else if k == 1 && n == 1 then 1 else if k == 1 then 2 else 0
def truthE (k n: Int): Int := if k == 0 then 0 else if k == 1 && n == 0 then 0 else if k == 1 && n == 1 then 0 else if k == 1 then 0 else 4
theorem below_alloc (w: World) (o: Obj): Below w.heap.size w (w.alloc o) := (Below.refl _ _).alloc (Nat.le_refl _) o
theorem toList_isEmpty (s: ByteArray): s.toList.isEmpty = (s.size == 0) := by
 rw [ByteArray.toList_eq,ByteArray.size, <- Array.length_toList]
 cases s.data.toList <;> simp
theorem size_beq (s: ByteArray): ((s.size: Int) == 0) = (s.size == 0) := by
 rw [Bool.eq_iff_iff]; simp
theorem of_walk (a: Int) (w: World): Calls Tryz.prog 210 #[.int .i64 a] w fun e w' => e = .returned (ofV a) /\ Below w.heap.size w w' := by
 go_enter Tryz.func210,Tryz.ntmps210
 go_wp2
 all_goals exact bodyPost_ret (v := ofV a) (by simp_all [results,Tryz.results210,go_sem,valV,ofV]) rfl ⟨rfl,below_alloc _ _⟩
theorem truth_walk (k n: Int) (s: ByteArray) (w: World): Calls Tryz.prog 179 #[valV k n s] w fun e w' =>
 e = .returned (.tuple #[.int .i64 (truthT k n), .int .i64 (truthE k n)]) /\ Below w.heap.size w w' := by
 go_enter Tryz.func179,Tryz.ntmps179
 unfold valV
 go_wp2
 all_goals (go_ret2; exact ⟨by simp_all [truthT,truthE],below_alloc _ _⟩)
theorem right_walk (k n: Int) (s: ByteArray) (w: World): Calls Tryz.prog 144 #[valV k n s] w fun e w' => e = .returned (.bool (rightB k n s)) /\ Below w.heap.size w w' := by
 go_enter Tryz.func144,Tryz.ntmps144
 unfold valV
 go_wp2
 all_goals (go_ret; refine ⟨?_,below_alloc _ _⟩; simp_all [rightB,toList_isEmpty])
 omega
theorem rright_walk (k n: Int) (s: ByteArray) (w: World): Calls Tryz.prog 65 #[valV k n s] w fun e w' => e = .returned (.bool (rightB k n s)) /\ Below w.heap.size w w' := by
 go_enter Tryz.func65,Tryz.ntmps65
 unfold valV
 go_wp2
 all_goals (go_ret; refine ⟨?_,below_alloc _ _⟩; simp_all [rightB,size_beq])
 omega
end Go.Proofs.YteibhbnlcpejpaaGreat
