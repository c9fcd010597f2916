import Derived.Test.YteibhbnlcpejpaaGreatMAJ
namespace Go.Proofs.YteibhbnlcpejpaaGreat
open Go.RowKit
def ofVv (t: Int): Vv := if t == 0 then ⟨1,0,⟨#[]⟩⟩ else if t == 1 then ⟨1,1,⟨#[]⟩⟩ else vz
theorem ofVv_ofV (t: Int): vvV (ofVv t) = ofV t := by
 unfold ofVv ofV
 cases t == 0 <;> cases t == 1 <;> rfl
def vvOf: Value -> Vv
 | .agg #[.int .i64 k, .int .i64 n, .string s] => ⟨k,n,s⟩
 | _ => vz
theorem vvOf_val (k n: Int) (s: ByteArray): vvOf (valV k n s) = ⟨k,n,s⟩ := rfl
theorem reck_shape (op: ByteArray) (k n: Int) (s: ByteArray) (k' n': Int) (s': ByteArray): ∃ x y z,reckV op k n s k' n' s' = valV x y z /\ fits x = true /\ fits y = true /\ z.size <= 24 := by
 unfold reckV
 split
 · exact ⟨0,0,_,rfl,by decide,by decide,by decide⟩
 split
 · exact ⟨0,0,_,rfl,by decide,by decide,by decide⟩
 split
 · unfold catV
   split
   · rename_i h; exact ⟨3,0,_,rfl,by decide,by decide,by simp; omega⟩
   · exact ⟨0,0,_,rfl,by decide,by decide,by decide⟩
 split
 · exact ⟨0,0,_,rfl,by decide,by decide,by decide⟩
 split
 · rename_i h; exact ⟨2,_,_,rfl,by decide,h,by decide⟩
 · exact ⟨0,0,_,rfl,by decide,by decide,by decide⟩
def reckVv (op: ByteArray) (a b: Vv): Vv := vvOf (reckV op a.k a.n a.s b.k b.n b.s)
theorem reckVv_eq (op: ByteArray) (a b: Vv): reckV op a.k a.n a.s b.k b.n b.s = vvV (reckVv op a b) := by
 obtain ⟨x,y,z,h,_⟩ := reck_shape op a.k a.n a.s b.k b.n b.s
 rw [reckVv,h]; rfl
theorem reckVv_fit (op: ByteArray) (a b: Vv): VFit (reckVv op a b) := by
 obtain ⟨x,y,z,h,h1,h2,h3⟩ := reck_shape op a.k a.n a.s b.k b.n b.s
 rw [reckVv,h]
 exact ⟨h1,h2,by show z.size <= 281474976710656; omega⟩
theorem ofVv_fit (t: Int): VFit (ofVv t) := by
 unfold ofVv
 split
 · exact ⟨by decide,by decide,by decide⟩
 split
 · exact ⟨by decide,by decide,by decide⟩
 · exact ⟨by decide,by decide,by decide⟩
theorem vz_fit: VFit vz := ⟨by decide,by decide,by decide⟩
abbrev VE := Vv × Int
def errOr (v: Vv) (e: Int): VE := if e == 0 then (v,0) else (vz,e)
def trE (r: VE): Int × Int := if r.2 == 0 then (if truthE r.1.k r.1.n == 0 then (truthT r.1.k r.1.n,0) else (0,truthE r.1.k r.1.n)) else (0,r.2)
def evBoth (settle: Int) (join: Int -> Int -> Int) (a b: VE): VE :=
 if (trE a).2 == 0 then (if (trE a).1 == settle then (ofVv (trE a).1,0) else if (trE b).2 == 0 then (ofVv (join (trE a).1 (trE b).1),0) else (vz,(trE b).2)) else (vz,(trE a).2)
def evCol (rs: List RowL) (v c: Int): VE :=
 if v < 0 then (vz,15) else match rs[v.toNat]? with
  | none => (vz,15)
  | some r => if c < 0 then (vz,15) else match r.l[c.toNat]? with
   | none => (vz,15)
   | some u => (u,0)
def isZ (v: Vv): Bool := v.k == 0 && v.n == 0 && v.s.toList == []
def minusB: ByteArray := ⟨#[45]⟩
def oneV (op: List UInt8) (a: Vv): VE :=
 if op == nNEG then errOr (reckVv minusB ⟨2,0,⟨#[]⟩⟩ a) (reckE minusB 2 0 ⟨#[]⟩ a.k a.n a.s)
 else if op == nNOT then (if truthE a.k a.n == 0 then (ofVv (tNot (truthT a.k a.n)),0) else (vz,truthE a.k a.n))
 else (ofVv (if isZ a then 1 else 0),0)
def twoV (op: ByteArray) (a b: Vv): VE :=
 if op.toList == [43] || op.toList == [45] || op.toList == [42] then errOr (reckVv op a b) (reckE op a.k a.n a.s b.k b.n b.s)
 else errOr (ofVv (holdsT op a.k a.n a.s b.k b.n b.s)) (holdsE op a.k a.n a.s b.k b.n b.s)
def oneE (op: List UInt8) (a: VE): VE := if a.2 == 0 then oneV op a.1 else (vz,a.2)
def twoE (op: ByteArray) (a b: VE): VE := if a.2 == 0 then (if b.2 == 0 then twoV op a.1 b.1 else (vz,b.2)) else (vz,a.2)
def evN: Nat -> List RowL -> NL -> VE
 | 0,_,_ => (vz,15)
 | n + 1,rs,x =>
  if (x.kids.length: Int) == kidsN x.op then
   (if x.op.toList == nVALUE then (⟨x.vk,x.vn,x.vs⟩,0)
   else if x.op.toList == nCOLUMN then evCol rs x.var x.col
   else if x.op.toList == nAND then evBoth 0 tAnd (evN n rs (x.kids.headD zNL)) (evN n rs (x.kids.tail.headD zNL))
   else if x.op.toList == nOR then evBoth 1 tOr (evN n rs (x.kids.headD zNL)) (evN n rs (x.kids.tail.headD zNL))
   else if x.kids.length == 1 then oneE x.op.toList (evN n rs (x.kids.headD zNL))
   else twoE x.op (evN n rs (x.kids.headD zNL)) (evN n rs (x.kids.tail.headD zNL)))
  else (vz,15)
theorem errOr_fit {v: Vv} (h: VFit v) (e: Int): VFit (errOr v e).1 := by
 unfold errOr
 split
 · exact h
 · exact vz_fit
theorem evBoth_fit (s: Int) (j: Int -> Int -> Int) (a b: VE): VFit (evBoth s j a b).1 := by
 unfold evBoth
 repeat' split
 all_goals first | exact ofVv_fit _ | exact vz_fit
theorem evCol_fit {rs: List RowL} (h: RowsFit rs) (v c: Int): VFit (evCol rs v c).1 := by
 unfold evCol
 split
 · exact vz_fit
 split
 · exact vz_fit
 · rename_i r hr
   split
   · exact vz_fit
   split
   · exact vz_fit
   · rename_i u hu
     exact (h.2 r (List.mem_of_getElem? hr)).2 u (List.mem_of_getElem? hu)
theorem oneE_fit (op: List UInt8) (a: VE): VFit (oneE op a).1 := by
 unfold oneE oneV
 repeat' split
 all_goals first | exact ofVv_fit _ | exact vz_fit | exact errOr_fit (reckVv_fit _ _ _) _
theorem twoE_fit (op: ByteArray) (a b: VE): VFit (twoE op a b).1 := by
 unfold twoE twoV
 repeat' split
 all_goals first | exact vz_fit | exact errOr_fit (reckVv_fit _ _ _) _ | exact errOr_fit (ofVv_fit _) _
theorem evN_fit {n: Nat} {w: World} {rs: List RowL} {x: NL} (hI: InN n w x) (hR: RowsFit rs): VFit (evN n rs x).1 := by
 cases n with
 | zero => exact vz_fit
 | succ n =>
  have hx := hI.1
  unfold evN
  repeat' split
  all_goals first | exact vz_fit | exact evBoth_fit _ _ _ _ | exact evCol_fit hR _ _ | exact oneE_fit _ _ | exact twoE_fit _ _ _ | exact ⟨hx.k,hx.n,hx.vs⟩
theorem headD_like {n: Nat} {l m: List NL} (h7: l.length = m.length) (h8: ∀ (j: Nat) k k',l[j]? = some k -> m[j]? = some k' -> LikeN n k k') (f: NL -> VE) (hf: ∀ k k',LikeN n k k' -> f k = f k'): f (l.headD zNL) = f (m.headD zNL) /\ f (l.tail.headD zNL) = f (m.tail.headD zNL) := by
 match l,m,h7,h8 with
 | [],[],_,_ => exact ⟨rfl,rfl⟩
 | [k],[k'],_,h8 => exact ⟨hf _ _ (h8 0 k k' rfl rfl),rfl⟩
 | k :: p :: _,k' :: p' :: _,_,h8 => exact ⟨hf _ _ (h8 0 k k' rfl rfl),hf _ _ (h8 1 p p' rfl rfl)⟩
theorem LikeN.ev (rs: List RowL): ∀ {n: Nat} {x y: NL},LikeN n x y -> evN n rs x = evN n rs y
 | 0,_,_,_ => rfl
 | n + 1,x,y,h => by
  obtain ⟨h1,h2,h3,h4,h5,h6,h7,h8⟩ := h
  obtain ⟨e0,e1⟩ := headD_like h7 h8 (evN n rs) fun k k' hk => hk.ev rs
  unfold evN
  rw [h1,h2,h3,h4,h5,h6,h7,e0,e1]
theorem below_two (w: World) (o1 o2: Obj): Below w.heap.size w ((w.alloc o1).alloc o2) := (Rw.below_alloc _ _).alloc (by simp) _
theorem vbox {W w1: World} {p: Nat} {a b c: Value} (h: W.heap[p]? = some (.cells #[a,b,c] 27 (0,0))) (hb: Below W.heap.size W w1) :
 w1.cell? ⟨p,0,none⟩ = some a /\ w1.cell? ⟨p,1,none⟩ = some b /\ w1.cell? ⟨p,2,none⟩ = some c /\ w1.frozen? ⟨p,0,none⟩ = false /\ w1.frozen? ⟨p,1,none⟩ = false /\ w1.frozen? ⟨p,2,none⟩ = false /\ p < w1.heap.size := by
 have h1: w1.heap[p]? = some (.cells #[a,b,c] 27 (0,0)) := (hb.block p (Array.getElem?_eq_some_iff.1 h).1).trans h
 exact ⟨by rw [cell_of_row _ _ _ _ _ _ h1]; rfl,by rw [cell_of_row _ _ _ _ _ _ h1]; rfl,by rw [cell_of_row _ _ _ _ _ _ h1]; rfl,frozen_of_row _ _ _ _ _ h1,frozen_of_row _ _ _ _ _ h1,frozen_of_row _ _ _ _ _ h1,(Array.getElem?_eq_some_iff.1 h1).1⟩
theorem heap_two (w: World) (o1 o2: Obj): ((w.alloc o1).alloc o2).heap[w.heap.size + 1]? = some o2 := by
 rw [show w.heap.size + 1 = (w.alloc o1).heap.size by simp]; exact Rw.heap_new _ _
theorem below_set3 {B p: Nat} {a w: World} (hb: B <= p) (h: Below B a w) (v0 v1 v2: Value): Below B a (((w.setCell ⟨p,0,none⟩ v0).setCell ⟨p,1,none⟩ v1).setCell ⟨p,2,none⟩ v2) :=
 ((h.setCell hb v0).setCell hb v1).setCell hb v2
theorem evCol_lo {rs: List RowL} {v c: Int} (h: v < 0): evCol rs v c = (vz,15) := by unfold evCol; rw [if_pos h]
theorem evCol_hi {rs: List RowL} {v c: Int} (h: ¬ v < 0) (h1: (rs.length: Int) <= v): evCol rs v c = (vz,15) := by
 unfold evCol
 rw [if_neg h,List.getElem?_eq_none (by omega)]
theorem evCol_clo {rs: List RowL} {j: Nat} {r: RowL} {c: Int} (hr: rs[j]? = some r) (h: c < 0): evCol rs (j: Int) c = (vz,15) := by
 unfold evCol
 rw [if_neg (by omega)]
 simp only [Int.toNat_natCast,hr,if_pos h]
theorem evCol_chi {rs: List RowL} {j: Nat} {r: RowL} {c: Int} (hr: rs[j]? = some r) (h: ¬ c < 0) (h1: (r.l.length: Int) <= c): evCol rs (j: Int) c = (vz,15) := by
 unfold evCol
 rw [if_neg (by omega)]
 simp only [Int.toNat_natCast,hr,if_neg h]
 rw [List.getElem?_eq_none (by omega)]
theorem evCol_at {rs: List RowL} {j i: Nat} {r: RowL} {u: Vv} (hr: rs[j]? = some r) (hu: r.l[i]? = some u): evCol rs (j: Int) (i: Int) = (u,0) := by
 unfold evCol
 rw [if_neg (by omega)]
 simp only [Int.toNat_natCast,hr]
 rw [if_neg (by omega)]
 simp only [hu]
theorem heap_three (w: World) (o1 o2 o3: Obj): (((w.alloc o1).alloc o2).alloc o3).heap[w.heap.size + 1 + 1]? = some o3 := by
 rw [show w.heap.size + 1 + 1 = ((w.alloc o1).alloc o2).heap.size by simp]; exact Rw.heap_new _ _
theorem below_three (w: World) (o1 o2 o3: Obj): Below w.heap.size w (((w.alloc o1).alloc o2).alloc o3) := (below_two w o1 o2).alloc (by simp; omega) _
end Go.Proofs.YteibhbnlcpejpaaGreat
