import Derived.Test.YteibhbnlcpejpaaGreatMAI
import Derived.Test.YteibhbnlcpejpaaGreatMAD
import Derived.Test.YteibhbnlcpejpaaGreatMAH
namespace Go.Proofs.YteibhbnlcpejpaaGreat
open Go.RowKit
inductive NL where
 | mk (op: ByteArray) (vk vn: Int) (vs: ByteArray) (var col: Int) (a: Option Addr) (c: Nat) (kids: List NL)
namespace NL
def op: NL -> ByteArray | mk o _ _ _ _ _ _ _ _ => o
def vk: NL -> Int | mk _ k _ _ _ _ _ _ _ => k
def vn: NL -> Int | mk _ _ n _ _ _ _ _ _ => n
def vs: NL -> ByteArray | mk _ _ _ s _ _ _ _ _ => s
def var: NL -> Int | mk _ _ _ _ v _ _ _ _ => v
def col: NL -> Int | mk _ _ _ _ _ c _ _ _ => c
def a: NL -> Option Addr | mk _ _ _ _ _ _ a _ _ => a
def c: NL -> Nat | mk _ _ _ _ _ _ _ c _ => c
def kids: NL -> List NL | mk _ _ _ _ _ _ _ _ l => l
end NL
def zNL: NL := .mk ⟨#[]⟩ 0 0 ⟨#[]⟩ 0 0 none 0 []
def nC (x: NL): List Value := [.string x.op, .int .i64 x.vk, .int .i64 x.vn, .string x.vs, .int .i64 x.var, .int .i64 x.col, .slice x.a x.kids.length x.c]
theorem nC_len (x: NL): (nC x).length = 7 := rfl
theorem nC_one (x: NL): ∀ u ∈ nC x,u.oneCell' = true := by
 intro u hu
 simp only [nC,List.mem_cons,List.not_mem_nil,or_false] at hu
 rcases hu with rfl | rfl | rfl | rfl | rfl | rfl | rfl <;> rfl
def nV (x: NL): Value := .agg #[.string x.op, .int .i64 x.vk, .int .i64 x.vn, .string x.vs, .int .i64 x.var, .int .i64 x.col, .slice x.a x.kids.length x.c]
structure NOk (x: NL): Prop where
 k: fits x.vk = true
 n: fits x.vn = true
 op: x.op.size <= 281474976710656
 vs: x.vs.size <= 281474976710656
 kids: x.kids.length <= 1599289640401
def InN: Nat -> World -> NL -> Prop
 | 0,_,_ => True
 | n + 1,w,x => NOk x /\ Rw.SlG nC 7 w x.a x.kids /\ ∀ k ∈ x.kids,InN n w k
theorem InN.on: ∀ {n: Nat} {w W: World} {x: NL},InN n w x -> Below w.heap.size w W -> InN n W x
 | 0,_,_,_,_,_ => trivial
 | _ + 1,_,_,_,h,hb => ⟨h.1,h.2.1.below hb,fun k hk => (h.2.2 k hk).on hb⟩
theorem InN.le: ∀ {n m: Nat} {w: World} {x: NL},InN n w x -> m <= n -> InN m w x
 | _,0,_,_,_,_ => trivial
 | 0,m + 1,_,_,_,h => absurd h (by omega)
 | n + 1,m + 1,_,_,h,hm => ⟨h.1,h.2.1,fun k hk => (h.2.2 k hk).le (by omega)⟩
def deepN: Nat -> NL -> Bool
 | 0,_ => true
 | n + 1,x => x.kids.any (deepN n)
theorem InN.deep: ∀ {n: Nat} {w: World} {x: NL},InN n w x -> deepN n x = false -> ∀ m,InN m w x
 | 0,_,_,_,h => by cases h
 | n + 1,w,x,hi,h => fun m => by
  cases m with
  | zero => trivial
  | succ m =>
   simp only [deepN,List.any_eq_false] at h
   exact ⟨hi.1,hi.2.1,fun k hk => InN.deep (hi.2.2 k hk) (by simpa using h k hk) m⟩
theorem deepN_le: ∀ {n m: Nat} {x: NL},deepN n x = false -> n <= m -> deepN m x = false
 | 0,_,_,h,_ => by cases h
 | n + 1,0,_,_,h => absurd h (by omega)
 | n + 1,m + 1,x,h,hm => by
  simp only [deepN,List.any_eq_false] at h ⊢
  intro k hk
  have := deepN_le (x := k) (by simpa using h k hk) (Nat.le_of_succ_le_succ hm)
  simp [this]
def LikeN: Nat -> NL -> NL -> Prop
 | 0,_,_ => True
 | n + 1,x,y => x.op = y.op /\ x.vk = y.vk /\ x.vn = y.vn /\ x.vs = y.vs /\ x.var = y.var /\ x.col = y.col /\ x.kids.length = y.kids.length /\ ∀ (j: Nat) k k',x.kids[j]? = some k -> y.kids[j]? = some k' -> LikeN n k k'
theorem any_atN {f: NL -> Bool} {g: NL -> Bool}: ∀ {l m: List NL},l.length = m.length -> (∀ (j: Nat) k k',l[j]? = some k -> m[j]? = some k' -> f k = g k') -> l.any f = m.any g
 | [],[],_,_ => rfl
 | x :: l,y :: m,hl,h => by
  rw [List.any_cons,List.any_cons,h 0 x y rfl rfl,any_atN (by simpa using hl) fun j k k' h1 h2 => h (j + 1) k k' (by simpa using h1) (by simpa using h2)]
 | [],_ :: _,hl,_ => by simp at hl
 | _ :: _,[],hl,_ => by simp at hl
theorem LikeN.deep: ∀ {n: Nat} {x y: NL},LikeN n x y -> deepN n x = deepN n y
 | 0,_,_,_ => rfl
 | _ + 1,_,_,h => any_atN h.2.2.2.2.2.2.1 fun j k k' a b => LikeN.deep (h.2.2.2.2.2.2.2 j k k' a b)
structure Vv where
 k: Int
 n: Int
 s: ByteArray
def vvV (v: Vv): Value := valV v.k v.n v.s
def vvC (v: Vv): List Value := [.int .i64 v.k, .int .i64 v.n, .string v.s]
theorem vvC_len (v: Vv): (vvC v).length = 3 := rfl
def vz: Vv := ⟨0,0,⟨#[]⟩⟩
def VFit (v: Vv): Prop := fits v.k = true /\ fits v.n = true /\ v.s.size <= 281474976710656
structure RowL where
 a: Option Addr
 c: Nat
 l: List Vv
def rowC (r: RowL): List Value := [.slice r.a r.l.length r.c]
theorem rowC_len (r: RowL): (rowC r).length = 1 := rfl
structure RowsIn (w: World) (a: Option Addr) (rs: List RowL): Prop where
 rows: Rw.SlG rowC 1 w a rs
 vals: ∀ r ∈ rs,Rw.SlG vvC 3 w r.a r.l
theorem RowsIn.on {w W: World} {a: Option Addr} {rs: List RowL} (h: RowsIn w a rs) (hb: Below w.heap.size w W): RowsIn W a rs := ⟨h.rows.below hb,fun r hr => (h.vals r hr).below hb⟩
def RowsFit (rs: List RowL): Prop := rs.length <= maxLen /\ ∀ r ∈ rs,r.l.length <= maxLen /\ ∀ v ∈ r.l,VFit v
def nVALUE: List UInt8 := [118,97,108,117,101]
def nCOLUMN: List UInt8 := [99,111,108,117,109,110]
def nNEG: List UInt8 := [110,101,103]
def nNOT: List UInt8 := [110,111,116]
def nNULL: List UInt8 := [110,117,108,108]
def nAND: List UInt8 := [97,110,100]
def nOR: List UInt8 := [111,114]
def nops1: List (List UInt8) := [nNEG,nNOT,nNULL]
def nops2: List (List UInt8) := [[43],[45],[42],[61],[60,62],[60],[60,61],[62],[62,61],[97,110,100],[111,114]]
def kidsN (s: ByteArray): Int :=
 if s.toList == nVALUE || s.toList == nCOLUMN then 0 else if nops1.contains s.toList then 1 else if nops2.contains s.toList then 2 else -1
end Go.Proofs.YteibhbnlcpejpaaGreat
