import Derived.Test.YteibhbnlcpejpaaGreatMAH
import Derived.Lib.AppendIntMem
import Derived.Lib.ItoaMem
import Derived.Lib.SmallJoins
import Derived.Test.YteibhbnlcpejpaaGreatMAW
import Derived.Test.YteibhbnlcpejpaaGreatMAI
import Derived.Test.YteibhbnlcpejpaaGreatMAV
namespace Go.Proofs.YteibhbnlcpejpaaGreat
open Go.RowKit
theorem right_cases {k n: Int} {s: ByteArray} (h: rightB k n s = true) :
 (k = 0 /\ n = 0 /\ s = ⟨#[]⟩) \/ (k = 1 /\ (n = 0 \/ n = 1) /\ s = ⟨#[]⟩) \/ (k = 2 /\ s = ⟨#[]⟩) \/ (k = 3 /\ n = 0 /\ s.size <= 24) := by
 have hl: (s.size == 0) = true -> s = ⟨#[]⟩ := fun e => by
  have: s.size = 0 := by simpa using e
  apply ByteArray.ext
  exact Array.eq_empty_of_size_eq_zero this
 unfold rightB at h
 split at h
 · rename_i hk
   rw [Bool.and_eq_true,beq_iff_eq] at h
   exact Or.inl ⟨by simpa using hk,h.1,hl h.2⟩
 split at h
 · rename_i hk0 hk
   rw [Bool.and_eq_true,Bool.or_eq_true,beq_iff_eq,beq_iff_eq] at h
   exact Or.inr (Or.inl ⟨by simpa using hk,h.1,hl h.2⟩)
 split at h
 · rename_i hk
   exact Or.inr (Or.inr (Or.inl ⟨by simpa using hk,hl h⟩))
 · simp only [Bool.and_eq_true,beq_iff_eq,decide_eq_true_eq] at h
   exact Or.inr (Or.inr (Or.inr ⟨h.1.1,h.1.2,h.2⟩))
inductive XL where
 | mk (op: ByteArray) (vk vn: Int) (vs var col: ByteArray) (a: Option Addr) (c: Nat) (kids: List XL)
namespace XL
def op: XL -> ByteArray | mk o _ _ _ _ _ _ _ _ => o
def vk: XL -> Int | mk _ k _ _ _ _ _ _ _ => k
def vn: XL -> Int | mk _ _ n _ _ _ _ _ _ => n
def vs: XL -> ByteArray | mk _ _ _ s _ _ _ _ _ => s
def var: XL -> ByteArray | mk _ _ _ _ v _ _ _ _ => v
def col: XL -> ByteArray | mk _ _ _ _ _ c _ _ _ => c
def a: XL -> Option Addr | mk _ _ _ _ _ _ a _ _ => a
def c: XL -> Nat | mk _ _ _ _ _ _ _ c _ => c
def kids: XL -> List XL | mk _ _ _ _ _ _ _ _ l => l
end XL
def zXL: XL := .mk ⟨#[]⟩ 0 0 ⟨#[]⟩ ⟨#[]⟩ ⟨#[]⟩ none 0 []
def xC (x: XL): List Value := [.string x.op, .int .i64 x.vk, .int .i64 x.vn, .string x.vs, .string x.var, .string x.col, .slice x.a x.kids.length x.c]
theorem xC_len (x: XL): (xC x).length = 7 := rfl
theorem xC_one (x: XL): ∀ u ∈ xC x,u.oneCell' = true := by
 intro u hu
 simp only [xC,List.mem_cons,List.not_mem_nil,or_false] at hu
 rcases hu with rfl | rfl | rfl | rfl | rfl | rfl | rfl <;> rfl
def xV (x: XL): Value := .agg #[.string x.op, .int .i64 x.vk, .int .i64 x.vn, .string x.vs, .string x.var, .string x.col, .slice x.a x.kids.length x.c]
structure XOk (x: XL): Prop where
 k: fits x.vk = true
 n: fits x.vn = true
 op: x.op.size <= maxLen
 vs: x.vs.size <= maxLen
 var: x.var.size <= maxLen
 col: x.col.size <= maxLen
 kids: x.kids.length <= 1353245080300
def In: Nat -> World -> XL -> Prop
 | 0,_,_ => True
 | n + 1,w,x => XOk x /\ Rw.SlG xC 7 w x.a x.kids /\ ∀ k ∈ x.kids,In n w k
theorem In.on: ∀ {n: Nat} {w W: World} {x: XL},In n w x -> Below w.heap.size w W -> In n W x
 | 0,_,_,_,_,_ => trivial
 | _ + 1,_,_,_,h,hb => ⟨h.1,h.2.1.below hb,fun k hk => (h.2.2 k hk).on hb⟩
def deepB: Nat -> XL -> Bool
 | 0,_ => true
 | n + 1,x => x.kids.any (deepB n)
def Like: Nat -> XL -> XL -> Prop
 | 0,_,_ => True
 | n + 1,x,y => x.op = y.op /\ x.vk = y.vk /\ x.vn = y.vn /\ x.vs = y.vs /\ x.var = y.var /\ x.col = y.col /\ x.kids.length = y.kids.length /\ ∀ (j: Nat) k k',x.kids[j]? = some k -> y.kids[j]? = some k' -> Like n k k'
def oVALUE: List UInt8 := [118,97,108,117,101]
def oCOLUMN: List UInt8 := [99,111,108,117,109,110]
def oNEG: List UInt8 := [110,101,103]
def oNOT: List UInt8 := [110,111,116]
def oNULL: List UInt8 := [110,117,108,108]
def ops1: List (List UInt8) := [oNEG,oNOT,oNULL]
def ops2: List (List UInt8) := [[43],[45],[42],[61],[60,62],[60],[60,61],[62],[62,61],[97,110,100],[111,114]]
def kidsI (s: ByteArray): Int :=
 if s.toList == oVALUE || s.toList == oCOLUMN then 0 else if ops1.contains s.toList then 1 else if ops2.contains s.toList then 2 else -1
def noVal (x: XL): Bool := x.vk == 0 && x.vn == 0 && x.vs.toList == []
def rightX: Nat -> XL -> Bool
 | 0,_ => false
 | n + 1,x => decide ((x.kids.length: Int) = kidsI x.op) &&
  (if x.op.toList == oVALUE then x.var.toList == [] && x.col.toList == [] && rightB x.vk x.vn x.vs && decide (0 <= x.vn)
   else if x.op.toList == oCOLUMN then noVal x && nameB x.col && (x.var.toList == [] || nameB x.var)
   else noVal x && x.var.toList == [] && x.col.toList == [] && x.kids.all (rightX n))
section
variable {n: Nat} {xo: ByteArray} {xk xn: Int} {xs xv xc: ByteArray} {xa: Option Addr} {xp: Nat} {l: List XL} {k k': XL}
end
theorem kids_of_right {n: Nat} {x: XL} (h: rightX (n + 1) x = true): (x.kids.length: Int) = kidsI x.op := by
 simp only [rightX,Bool.and_eq_true,decide_eq_true_eq] at h
 exact h.1
end Go.Proofs.YteibhbnlcpejpaaGreat
