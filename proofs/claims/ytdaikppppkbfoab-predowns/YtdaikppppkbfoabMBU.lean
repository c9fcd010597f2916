import Derived.Test.YtdaikppppkbfoabMAM
namespace Go.Proofs.Ytdaikppppkbfoab
open Go.RowKit
def nullBd: Bd := ⟨true,true,vz⟩
def NL.val (x: NL): Vv := ⟨x.vk,x.vn,x.vs⟩
def isColN (x: NL): Bool := x.op.toList == nCOLUMN && x.var == 0 && x.kids.length == 0
def isKnownN (x: NL): Bool := x.op.toList == nVALUE && !isZ x.val && x.kids.length == 0
def oLT: ByteArray := ⟨#[60]⟩
def oLE: ByteArray := ⟨#[60,61]⟩
def oGT: ByteArray := ⟨#[62]⟩
def oGE: ByteArray := ⟨#[62,61]⟩
def turnN (s: ByteArray): ByteArray :=
 if s.toList == [60] then oGT else if s.toList == [60,61] then oGE else if s.toList == [62] then oLT else if s.toList == [62,61] then oLE else s
def boundsN (s: List UInt8) (v: Vv): Bd × Bd × Bool :=
 if s == [61] then (⟨true,true,v⟩,⟨true,true,v⟩,true)
 else if s == [60] then (⟨true,false,vz⟩,⟨true,false,v⟩,true)
 else if s == [60,61] then (⟨true,false,vz⟩,⟨true,true,v⟩,true)
 else if s == [62] then (⟨true,false,v⟩,bdz,true)
 else if s == [62,61] then (⟨true,true,v⟩,bdz,true)
 else (bdz,bdz,false)
def cmpN (op: ByteArray) (a b: NL): Tl × Bool := (⟨a.col,(boundsN op.toList b.val).1,(boundsN op.toList b.val).2.1⟩,(boundsN op.toList b.val).2.2 && isColN a && isKnownN b)
def comparedN (op: ByteArray) (a b: NL): Tl × Bool := if isColN b then cmpN (turnN op) b a else cmpN op a b
def testN (x: NL): Tl × Bool := match x.kids with
 | [k] => (⟨k.col,nullBd,nullBd⟩,x.op.toList == nNULL && isColN k)
 | [a,b] => comparedN x.op a b
 | _ => (tlz,false)
def testsN: List NL -> List Tl
 | [] => []
 | x :: l => if (testN x).2 then (testN x).1 :: testsN l else testsN l
def restN: List NL -> List NL
 | [] => []
 | x :: l => if (testN x).2 then restN l else x :: restN l
theorem testsN_snoc (x: NL): ∀ l,testsN (l ++ [x]) = testsN l ++ if (testN x).2 then [(testN x).1] else []
 | [] => by simp only [List.nil_append,testsN]
 | y :: l => by
  rw [List.cons_append,testsN,testsN,testsN_snoc x l]
  split <;> simp
theorem restN_snoc (x: NL): ∀ l,restN (l ++ [x]) = restN l ++ if (testN x).2 then [] else [x]
 | [] => by simp only [List.nil_append,restN]
 | y :: l => by
  rw [List.cons_append,restN,restN,restN_snoc x l]
  split <;> simp
theorem restN_mem {x: NL}: ∀ {l},x ∈ restN l -> x ∈ l
 | [],h => by cases h
 | y :: l,h => by
  rw [restN] at h
  split at h
  · exact List.mem_cons_of_mem _ (restN_mem h)
  · rcases List.mem_cons.1 h with rfl | h
    · exact List.mem_cons_self
    · exact List.mem_cons_of_mem _ (restN_mem h)
theorem restN_len: ∀ l,(restN l).length <= l.length
 | [] => Nat.le_refl _
 | y :: l => by
  rw [restN]
  have := restN_len l
  split <;> simp <;> omega
theorem testsN_len: ∀ l,(testsN l).length <= l.length
 | [] => Nat.le_refl _
 | y :: l => by
  rw [testsN]
  have := testsN_len l
  split <;> simp <;> omega
theorem boundsN_fit {s: List UInt8} {v: Vv} (h: VFit v): VFit (boundsN s v).1.v /\ VFit (boundsN s v).2.1.v := by
 unfold boundsN
 repeat' split
 all_goals exact ⟨by first | exact h | exact vz_fit,by first | exact h | exact vz_fit⟩
end Go.Proofs.Ytdaikppppkbfoab
