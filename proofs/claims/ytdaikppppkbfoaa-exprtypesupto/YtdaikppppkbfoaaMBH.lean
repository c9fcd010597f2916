import Derived.Test.YtdaikppppkbfoaaMAN
namespace Go.Proofs.Ytdaikppppkbfoaa
open Go.RowKit
def xA: NL := .mk ⟨#[99,111,108,117,109,110]⟩ 0 0 ⟨#[]⟩ 0 0 none 0 []
def xB: NL := .mk ⟨#[99,111,108,117,109,110]⟩ 0 0 ⟨#[]⟩ 0 1 none 0 []
def xN (n: Int): NL := .mk ⟨#[118,97,108,117,101]⟩ 2 n ⟨#[]⟩ 0 0 none 0 []
def xEq (p: Nat): NL := .mk ⟨#[61]⟩ 0 0 ⟨#[]⟩ 0 0 (some ⟨p,0,none⟩) 2 [xA,xN 1]
def xMul (p: Nat): NL := .mk ⟨#[42]⟩ 0 0 ⟨#[]⟩ 0 0 (some ⟨p,0,none⟩) 2 [xB,xB]
def xGt (p s: Nat): NL := .mk ⟨#[62]⟩ 0 0 ⟨#[]⟩ 0 0 (some ⟨p,0,none⟩) 2 [xMul s,xN 5]
def xAnd (r q p s: Nat): NL := .mk ⟨#[97,110,100]⟩ 0 0 ⟨#[]⟩ 0 0 (some ⟨r,0,none⟩) 2 [xEq q,xGt p s]
def H2 (w: World) (p: Nat) (x y: NL): Prop := w.heap[p]? = some (.cells (nC x ++ nC y).toArray 67 (0,0))
theorem H2.on {w w': World} {p: Nat} {x y: NL} (h: H2 w p x y) (hb: Below w.heap.size w w'): H2 w' p x y := (hb.block _ (Array.getElem?_eq_some_iff.1 h).1).trans h
theorem slg_flat {α: Type} {f: α -> List Value} {k: Nat} (hf: ∀ x,(f x).length = k) {W: World} {b: Nat} {l: List α} {T: TypeId} {fz: Nat × Nat} (h: W.heap[b]? = some (.cells (Rw.flat f l).toArray T fz)): Rw.SlG f k W (some ⟨b,0,none⟩) l := by
 refine Or.inr ⟨b,0,rfl,(Array.getElem?_eq_some_iff.1 h).1,fun j x hj i u hu => ?_⟩
 rw [Nat.zero_add,cell_of_row _ _ _ _ _ _ h]
 have := Rw.flat_at hf l j x hj i u hu
 simpa using this
theorem H2.slg {w: World} {p: Nat} {x y: NL} (h: H2 w p x y): Rw.SlG nC 7 w (some ⟨p,0,none⟩) [x,y] := slg_flat nC_len (by have h' := h; unfold H2 at h'; simpa [Rw.flat] using h')
theorem leafN {x: NL} (hk: x.kids = []) (h: NOk x): ∀ n w,InN n w x
 | 0,_ => trivial
 | n + 1,w => ⟨h,by rw [hk]; exact Or.inl rfl,fun k hk' => by rw [hk] at hk'; cases hk'⟩
theorem twoN {x y k: NL} {p: Nat} {w: World} (hx: NOk k) (ha: k.a = some ⟨p,0,none⟩) (hkk: k.kids = [x,y]) (h: H2 w p x y) (h1: ∀ n,InN n w x) (h2: ∀ n,InN n w y): ∀ n,InN n w k
 | 0 => trivial
 | n + 1 => ⟨hx,by rw [ha,hkk]; exact h.slg,fun z hz => by
  rw [hkk] at hz
  simp only [List.mem_cons,List.not_mem_nil,or_false] at hz
  rcases hz with rfl | rfl
  · exact h1 n
  · exact h2 n⟩
theorem smallN {x: NL} (h1: fits x.vk = true) (h2: fits x.vn = true) (h3: x.op.size <= 6) (h4: x.vs.size <= 6) (h7: x.kids.length <= 6): NOk x :=
 ⟨h1,h2,Nat.le_trans h3 (by unfold maxLen; omega),by omega,by omega⟩
theorem xAnd_in {r q p s: Nat} {w: World} (h1: H2 w r (xEq q) (xGt p s)) (h2: H2 w q xA (xN 1)) (h3: H2 w p (xMul s) (xN 5)) (h4: H2 w s xB xB): ∀ n,InN n w (xAnd r q p s) := by
 have hA: ∀ n,InN n w xA := fun n => leafN rfl (smallN rfl rfl (Nat.le_of_ble_eq_true rfl) (Nat.le_of_ble_eq_true rfl) (Nat.le_of_ble_eq_true rfl)) n w
 have hB: ∀ n,InN n w xB := fun n => leafN rfl (smallN rfl rfl (Nat.le_of_ble_eq_true rfl) (Nat.le_of_ble_eq_true rfl) (Nat.le_of_ble_eq_true rfl)) n w
 have h5: ∀ n,InN n w (xN 5) := fun n => leafN rfl (smallN rfl rfl (Nat.le_of_ble_eq_true rfl) (Nat.le_of_ble_eq_true rfl) (Nat.le_of_ble_eq_true rfl)) n w
 have hN: ∀ n,InN n w (xN 1) := fun n => leafN rfl (smallN rfl rfl (Nat.le_of_ble_eq_true rfl) (Nat.le_of_ble_eq_true rfl) (Nat.le_of_ble_eq_true rfl)) n w
 refine twoN (smallN rfl rfl (Nat.le_of_ble_eq_true rfl) (Nat.le_of_ble_eq_true rfl) (Nat.le_of_ble_eq_true rfl)) rfl rfl h1 ?_ ?_
 · exact twoN (smallN rfl rfl (Nat.le_of_ble_eq_true rfl) (Nat.le_of_ble_eq_true rfl) (Nat.le_of_ble_eq_true rfl)) rfl rfl h2 hA hN
 · exact twoN (smallN rfl rfl (Nat.le_of_ble_eq_true rfl) (Nat.le_of_ble_eq_true rfl) (Nat.le_of_ble_eq_true rfl)) rfl rfl h3 (twoN (smallN rfl rfl (Nat.le_of_ble_eq_true rfl) (Nat.le_of_ble_eq_true rfl) (Nat.le_of_ble_eq_true rfl)) rfl rfl h4 hB hB) h5
theorem xAnd_deep (r q p s: Nat): deepN 5 (xAnd r q p s) = false := rfl
def gV: Vv := ⟨2,4611686018427387904,⟨#[]⟩⟩
theorem tlB (l: List UInt8): (⟨l.toArray⟩: ByteArray).toList = l := by rw [ByteArray.toList_eq]
theorem ev_leaf {rs: List RowL} {n: Nat} (m: Int): evN (n + 1) rs (xN m) = (⟨2,m,⟨#[]⟩⟩,0) := by
 have e := tlB [118,97,108,117,101]
 have hk: kidsN ⟨#[118,97,108,117,101]⟩ = 0 := by unfold kidsN; rw [e]; decide
 rw [evN]
 simp only [xN,NL.kids,NL.op,NL.vk,NL.vn,NL.vs,hk,e]
 rfl
theorem ev_col {ad: Option Addr} {c: Nat} {u v: Vv} {n: Nat}: evN (n + 1) [⟨ad,c,[u,v]⟩] xA = (u,0) /\ evN (n + 1) [⟨ad,c,[u,v]⟩] xB = (v,0) := by
 have e := tlB [99,111,108,117,109,110]
 have hk: kidsN ⟨#[99,111,108,117,109,110]⟩ = 0 := by unfold kidsN; rw [e]; decide
 constructor
 · rw [evN]
   simp only [xA,NL.kids,NL.op,NL.var,NL.col,hk,e]
   rfl
 · rw [evN]
   simp only [xB,NL.kids,NL.op,NL.var,NL.col,hk,e]
   rfl
theorem right2 (n: Int): rightB 2 n ⟨#[]⟩ = true := by simp [rightB,ByteArray.size]
theorem ev_eq {ad: Option Addr} {c: Nat} {v: Vv} {n q: Nat} (m: Int) (hm: m = 1 \/ m = 2): evN (n + 2) [⟨ad,c,[⟨2,m,⟨#[]⟩⟩,v]⟩] (xEq q) = (ofVv (if m = 1 then 1 else 0),0) := by
 have e := tlB [61]
 have hk: kidsN ⟨#[61]⟩ = 2 := by unfold kidsN; rw [e]; decide
 rw [evN]
 simp only [xEq,NL.kids,NL.op,hk,e,List.headD_cons,List.tail_cons,ev_leaf,ev_col.1]
 show twoE ⟨#[61]⟩ (⟨2,m,⟨#[]⟩⟩,0) (⟨2,1,⟨#[]⟩⟩,0) = _
 unfold twoE twoV
 simp only [e,beq_self_eq_true,if_true]
 have hh: holdsE ⟨#[61]⟩ 2 m ⟨#[]⟩ 2 1 ⟨#[]⟩ = 0 := by
  unfold holdsE knownB
  simp [e,right2]
 have ht: holdsT ⟨#[61]⟩ 2 m ⟨#[]⟩ 2 1 ⟨#[]⟩ = if m = 1 then 1 else 0 := by
  unfold holdsT knownB
  rcases hm with rfl | rfl
  · simp [e,right2,holdsB,ordI,or3,Lib.compareInt,cmpS,Op.bytesLess]
  · simp [e,right2,holdsB,ordI,or3,Lib.compareInt]
 rw [if_neg (by decide),hh,ht]
 rfl
theorem ev_gt {ad: Option Addr} {c: Nat} {u: Vv} {n p s: Nat}: evN (n + 3) [⟨ad,c,[u,gV]⟩] (xGt p s) = (vz,7) := by
 have e := tlB [62]
 have e2 := tlB [42]
 have hk: kidsN ⟨#[62]⟩ = 2 := by unfold kidsN; rw [e]; decide
 have hk2: kidsN ⟨#[42]⟩ = 2 := by unfold kidsN; rw [e2]; decide
 have hm: evN (n + 2) [⟨ad,c,[u,gV]⟩] (xMul s) = (vz,7) := by
  rw [evN]
  simp only [xMul,NL.kids,NL.op,hk2,e2,List.headD_cons,List.tail_cons,ev_col.2]
  show twoE ⟨#[42]⟩ (gV,0) (gV,0) = _
  unfold twoE twoV
  simp only [e2,beq_self_eq_true,if_true]
  have hr: reckE ⟨#[42]⟩ gV.k gV.n gV.s gV.k gV.n gV.s = 7 := by
   unfold reckE knownR gV opI
   simp [e2,right2]
   decide
  rw [if_pos (by decide),hr]
  rfl
 rw [evN]
 simp only [xGt,NL.kids,NL.op,hk,e,List.headD_cons,List.tail_cons,hm]
 rfl
theorem ev_first {ad: Option Addr} {c: Nat} {v: Vv} {r q p s: Nat}: evN 5 [⟨ad,c,[⟨2,2,⟨#[]⟩⟩,v]⟩] (xAnd r q p s) = (⟨1,0,⟨#[]⟩⟩,0) := by
 have e := tlB [97,110,100]
 have hk: kidsN ⟨#[97,110,100]⟩ = 2 := by unfold kidsN; rw [e]; decide
 rw [evN]
 simp only [xAnd,NL.kids,NL.op,hk,e,List.headD_cons,List.tail_cons,ev_eq 2 (Or.inr rfl)]
 generalize evN 4 [⟨ad,c,[⟨2,2,⟨#[]⟩⟩,v]⟩] (xGt p s) = z
 show evBoth 0 tAnd (⟨1,0,⟨#[]⟩⟩,0) z = _
 unfold evBoth
 have: trE (⟨1,0,⟨#[]⟩⟩,0) = (0,0) := by simp [trE,truthE,truthT]
 rw [this]
 rfl
theorem ev_second {ad: Option Addr} {c: Nat} {r q p s: Nat}: evN 5 [⟨ad,c,[⟨2,1,⟨#[]⟩⟩,gV]⟩] (xAnd r q p s) = (vz,7) := by
 have e := tlB [97,110,100]
 have hk: kidsN ⟨#[97,110,100]⟩ = 2 := by unfold kidsN; rw [e]; decide
 rw [evN]
 simp only [xAnd,NL.kids,NL.op,hk,e,List.headD_cons,List.tail_cons,ev_eq 1 (Or.inl rfl),ev_gt]
 show evBoth 0 tAnd (⟨1,1,⟨#[]⟩⟩,0) (vz,7) = _
 unfold evBoth
 have: trE (⟨1,1,⟨#[]⟩⟩,0) = (1,0) := by simp [trE,truthE,truthT]
 rw [this]
 rfl
end Go.Proofs.Ytdaikppppkbfoaa
