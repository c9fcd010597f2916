import Derived.Test.YteibhbnlcpejpaaGreatMAX
import Derived.Test.YteibhbnlcpejpaaGreatMAY
import Derived.Test.YteibhbnlcpejpaaGreatMAK
namespace Go.Proofs.YteibhbnlcpejpaaGreat
open Go.RowKit
structure VarL where
 name: ByteArray
 sk: Int
 st: ByteArray
 sv: ByteArray
 a: Option Addr
 c: Nat
 cols: List Col
def namedI (l: List VarL) (s: ByteArray): Int := match l.findIdx? (fun v => eqS v.name s) with
 | some i => i
 | none => -1
def onlyI (col: ByteArray): List VarL -> Int -> Int -> Int
 | [],_,o => o
 | v :: l,i,o => if findI v.cols col < 0 then onlyI col l (i + 1) o else if 0 <= o then -1 else onlyI col l (i + 1) i
def ownerI (l: List VarL) (var col: ByteArray): Int := if var.toList == [] then onlyI col l 0 (-1) else namedI l var
def placeO (l: List VarL) (var col: ByteArray): Option (Nat × Nat × Col) :=
 if ownerI l var col < 0 then none else match l[(ownerI l var col).toNat]? with
  | none => none
  | some v => if findI v.cols col < 0 then none else match v.cols[(findI v.cols col).toNat]? with
   | none => none
   | some c => some ((ownerI l var col).toNat,(findI v.cols col).toNat,c)
def agreeB (a b: Int): Bool := a == b || a == 0 || b == 0
def bothB (a b k: Int): Bool := agreeB a k && agreeB b k
def typeO (op: List UInt8) (a b: Int): Option Int :=
 if op == nNULL then some 1
 else if op == nNOT || op == nAND || op == nOR then (if bothB a b 1 then some 1 else none)
 else if op == nNEG || op == [45] || op == [42] then (if bothB a b 2 then some 2 else none)
 else if op == [43] then (if bothB a b 2 || bothB a b 3 then some (max a b) else none)
 else (if agreeB a b then some 1 else none)
abbrev Chk := NL × Int × Int
def chkPlace (xo: ByteArray) (p: Option (Nat × Nat × Col)): Chk := match p with
 | none => (zNL,0,2)
 | some (v,c,k) => (.mk xo 0 0 ⟨#[]⟩ v c none 0 [],k.t,0)
def chkTyped (xo: ByteArray) (l: List NL) (t: Option Int): Chk := match t with
 | none => (zNL,0,4)
 | some t => (.mk xo 0 0 ⟨#[]⟩ 0 0 none 0 l,t,0)
def chkOne (xo: ByteArray) (r: Chk): Chk := if r.2.2 == 0 then chkTyped xo [r.1] (typeO xo.toList r.2.1 0) else (zNL,0,r.2.2)
def chkTwo (xo: ByteArray) (r q: Chk): Chk := if r.2.2 == 0 then (if q.2.2 == 0 then chkTyped xo [r.1,q.1] (typeO xo.toList r.2.1 q.2.1) else (zNL,0,q.2.2)) else (zNL,0,r.2.2)
def chkKids (xo: ByteArray) (f: XL -> Chk): List XL -> Chk
 | [] => (zNL,0,15)
 | [k] => chkOne xo (f k)
 | k :: k2 :: _ => chkTwo xo (f k) (f k2)
def chk: Nat -> List VarL -> XL -> Chk
 | 0,_,_ => (zNL,0,15)
 | n + 1,l,x =>
  if x.op.toList == oVALUE then (.mk x.op x.vk x.vn x.vs 0 0 none 0 [],x.vk,0)
  else if x.op.toList == oCOLUMN then chkPlace x.op (placeO l x.var x.col)
  else chkKids x.op (chk n l) x.kids
theorem chk_mk {n: Nat} {l: List VarL} {xo: ByteArray} {xk xn: Int} {xs xv xc: ByteArray} {xa: Option Addr} {xp: Nat} {kids: List XL}: chk (n + 1) l (.mk xo xk xn xs xv xc xa xp kids) = (if xo.toList == oVALUE then (.mk xo xk xn xs 0 0 none 0 [],xk,0)
 else if xo.toList == oCOLUMN then chkPlace xo (placeO l xv xc)
 else chkKids xo (chk n l) kids) := rfl
def safeN: Nat -> NL -> Bool
 | 0,_ => false
 | n + 1,x => !(x.op.toList == [43] || x.op.toList == [45] || x.op.toList == [42] || x.op.toList == nNEG) && x.kids.all (safeN n)
def Typed (v: Vv) (t: Int): Prop := rightB v.k v.n v.s = true /\ (v.k = 0 \/ v.k = t)
def FitAll (l: List VarL) (rs: List RowL): Prop := l.length = rs.length /\ ∀ (i: Nat) v r,l[i]? = some v -> rs[i]? = some r -> r.l.length = v.cols.length /\ ∀ (j: Nat) c u,v.cols[j]? = some c -> r.l[j]? = some u -> Typed u c.t
def Sound (n: Nat) (rs: List RowL) (y: NL) (t: Int): Prop :=
 ((evN n rs y).2 = 0 /\ Typed (evN n rs y).1 t) \/ (((evN n rs y).2 = 7 \/ (evN n rs y).2 = 8) /\ (evN n rs y).1 = vz /\ safeN n y = false)
end Go.Proofs.YteibhbnlcpejpaaGreat
