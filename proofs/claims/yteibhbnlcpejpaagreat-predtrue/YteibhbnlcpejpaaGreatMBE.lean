import Derived.Test.YteibhbnlcpejpaaGreatMBC
import Derived.Test.YteibhbnlcpejpaaGreatMBD
set_option maxRecDepth 100000
set_option maxHeartbeats 4000000
namespace Go.Proofs.YteibhbnlcpejpaaGreat
open Go.RowKit
theorem ordV_zero {a b: Vv}: ordV a b = 0 ↔ a.k = b.k /\ a.n = b.n /\ a.s.toList = b.s.toList := ordI_zero _ _ _ _ _ _
theorem ordV_le {a b: Vv}: ordV a b <= 0 ↔ a.k < b.k \/ (a.k = b.k /\ (a.n < b.n \/ (a.n = b.n /\ a.s.toList <= b.s.toList))) := ordI_le _ _ _ _ _ _
theorem right_kind {v: Vv} (h: rightB v.k v.n v.s = true): v.k = 0 \/ v.k = 1 \/ v.k = 2 \/ v.k = 3 := by
 unfold rightB at h
 split at h
 · rename_i e; exact Or.inl (by simpa using e)
 split at h
 · rename_i e; exact Or.inr (Or.inl (by simpa using e))
 split at h
 · rename_i e; exact Or.inr (Or.inr (Or.inl (by simpa using e)))
 · simp at h; exact Or.inr (Or.inr (Or.inr h.1.1))
theorem size_list {s: ByteArray}: s.size = 0 ↔ s.toList = [] := by
 have: s.toList.isEmpty = (s.size == 0) := toList_isEmpty s
 constructor
 · intro h
   rw [h] at this
   simpa using this
 · intro h
   rw [h] at this
   simpa using this.symm
theorem nil_list: (vz: Vv).s.toList = [] := by simp [vz,ByteArray.toList_eq]
theorem lt_list: oLT.toList = [60] /\ oLE.toList = [60,61] /\ oGT.toList = [62] /\ oGE.toList = [62,61] := by simp [oLT,oLE,oGT,oGE,ByteArray.toList_eq]
theorem right_nullV {v: Vv} (h: rightB v.k v.n v.s = true) (hk: v.k = 0): v.n = 0 /\ v.s.toList = [] := by
 unfold rightB at h
 rw [if_pos (by simpa using hk)] at h
 simp only [Bool.and_eq_true,beq_iff_eq] at h
 exact ⟨h.1,size_list.1 h.2⟩
theorem isZ_iff {v: Vv}: isZ v = true ↔ v.k = 0 /\ v.n = 0 /\ v.s.toList = [] := by
 unfold isZ
 simp [and_assoc]
theorem ord_null {u: Vv} (h: rightB u.k u.n u.s = true): ordV u vz = if u.k = 0 then 0 else 1 := by
 split
 · rename_i hk
   have := right_nullV h hk
   exact ordV_zero.2 ⟨hk,this.1,this.2.trans nil_list.symm⟩
 · rename_i hk
   have h1: ¬ ordV u vz <= 0 := fun hl => by
    have hz: (vz: Vv).k = 0 := rfl
    rcases right_kind h with h' | h' | h' | h' <;> rcases ordV_le.1 hl with h2 | ⟨h2,_⟩ <;> omega
   rcases ordV_range u vz with h' | h' | h' <;> omega
theorem known_kind {v: Vv} (h: rightB v.k v.n v.s = true) (hz: isZ v = false): v.k ≠ 0 := fun hk => by
 have := right_nullV h hk
 rw [isZ_iff.2 ⟨hk,this.1,this.2⟩] at hz
 cases hz
theorem cmp_true {op: ByteArray} {u v: Vv} (hz: isZ v = false) (hE: holdsE op u.k u.n u.s v.k v.n v.s = 0) (hb: (boundsN op.toList v).2.2 = true) :
 inB (boundsN op.toList v).1 (boundsN op.toList v).2.1 u = (holdsT op u.k u.n u.s v.k v.n v.s == 1) := by
 have hKR: knownB op = true /\ rightB u.k u.n u.s = true /\ rightB v.k v.n v.s = true := by
  unfold holdsE at hE
  split at hE
  · cases hE
  · rename_i h
    simp at h
    exact ⟨h.1.1,h.1.2,h.2⟩
 obtain ⟨h1,h2,h3⟩ := hKR
 have hvk := known_kind h3 hz
 have hd := ord_null h2
 have hsw := ordV_swap u v
 have hsz := ordV_swap u vz
 have hc := ordV_range u v
 by_cases hu: u.k = 0
 · rw [if_pos hu] at hd
   have hc1: ordV u v = -1 := by
    have hle: ordV u v <= 0 := ordV_le.2 (Or.inl (by rcases right_kind h3 with h | h | h | h <;> omega))
    have hne: ordV u v ≠ 0 := fun e => by have := (ordV_zero.1 e).1; omega
    omega
   have hT: holdsT op u.k u.n u.s v.k v.n v.s = 2 := by
    unfold holdsT
    rw [if_neg (by simp [h1,h2,h3]),if_pos (by simp [hu])]
   rw [hT]
   unfold boundsN at hb ⊢
   split
   · simp [inB,letsB,hc1]
   split
   · simp [inB,letsB,hd]
   split
   · simp [inB,letsB,hd]
   split
   · simp [inB,letsB,hc1]
   split
   · simp [inB,letsB,hc1]
   · rename_i e1 e2 e3 e4 e5
     rw [if_neg e1,if_neg e2,if_neg e3,if_neg e4,if_neg e5] at hb
     cases hb
 · rw [if_neg hu] at hd
   have hkk: u.k = v.k := by
    unfold holdsE at hE
    rw [if_neg (by simp [h1,h2,h3]),if_neg (by simp [hu,hvk])] at hE
    split at hE
    · cases hE
    · rename_i h; simpa using h
   have hT: holdsT op u.k u.n u.s v.k v.n v.s = if holdsB op (ordV u v) then 1 else 0 := by
    unfold holdsT
    rw [if_neg (by simp [h1,h2,h3]),if_neg (by simp [hu,hvk]),if_neg (by simp [hkk])]
    rfl
   rw [hT]
   generalize hcc: ordV u v = c at *
   unfold boundsN at hb ⊢
   split
   · rename_i e
     have: holdsB op c = (c == 0) := by unfold holdsB; rw [if_pos e]
     rw [this]
     rcases hc with rfl | rfl | rfl <;> simp [inB,letsB,hcc,hsw]
   split
   · rename_i e0 e
     have e': op.toList = [60] := by simpa using e
     have: holdsB op c = decide (c < 0) := by unfold holdsB; simp [e']
     rw [this]
     rcases hc with rfl | rfl | rfl <;> simp [inB,letsB,hd,hsw]
   split
   · rename_i e0 e1 e
     have e': op.toList = [60,61] := by simpa using e
     have: holdsB op c = decide (c <= 0) := by unfold holdsB; simp [e']
     rw [this]
     rcases hc with rfl | rfl | rfl <;> simp [inB,letsB,hd,hsw]
   split
   · rename_i e0 e1 e2 e
     have e': op.toList = [62] := by simpa using e
     have: holdsB op c = decide (0 < c) := by unfold holdsB; simp [e']
     rw [this]
     rcases hc with rfl | rfl | rfl <;> simp [inB,letsB,hcc,bdz]
   split
   · rename_i e0 e1 e2 e3 e
     have e': op.toList = [62,61] := by simpa using e
     have: holdsB op c = decide (0 <= c) := by unfold holdsB; simp [e']
     rw [this]
     rcases hc with rfl | rfl | rfl <;> simp [inB,letsB,hcc,bdz]
   · rename_i e1 e2 e3 e4 e5
     rw [if_neg e1,if_neg e2,if_neg e3,if_neg e4,if_neg e5] at hb
     cases hb
theorem bounds_ops {l: List UInt8} {v: Vv} (h: (boundsN l v).2.2 = true): l = [61] \/ l = [60] \/ l = [60,61] \/ l = [62] \/ l = [62,61] := by
 unfold boundsN at h
 split at h
 · rename_i e; exact Or.inl (by simpa using e)
 split at h
 · rename_i e; exact Or.inr (Or.inl (by simpa using e))
 split at h
 · rename_i e; exact Or.inr (Or.inr (Or.inl (by simpa using e)))
 split at h
 · rename_i e; exact Or.inr (Or.inr (Or.inr (Or.inl (by simpa using e))))
 split at h
 · rename_i e; exact Or.inr (Or.inr (Or.inr (Or.inr (by simpa using e))))
 · cases h
theorem turn_ops {op: ByteArray} (h: (turnN op).toList = [61] \/ (turnN op).toList = [60] \/ (turnN op).toList = [60,61] \/ (turnN op).toList = [62] \/ (turnN op).toList = [62,61]) :
 (op.toList = [61] /\ (turnN op).toList = [61]) \/ (op.toList = [60] /\ (turnN op).toList = [62]) \/ (op.toList = [60,61] /\ (turnN op).toList = [62,61]) \/ (op.toList = [62] /\ (turnN op).toList = [60]) \/ (op.toList = [62,61] /\ (turnN op).toList = [60,61]) := by
 unfold turnN at h ⊢
 split
 · rename_i e; exact Or.inr (Or.inl ⟨by simpa using e,lt_list.2.2.1⟩)
 split
 · rename_i e; exact Or.inr (Or.inr (Or.inl ⟨by simpa using e,lt_list.2.2.2⟩))
 split
 · rename_i e; exact Or.inr (Or.inr (Or.inr (Or.inl ⟨by simpa using e,lt_list.1⟩)))
 split
 · rename_i e; exact Or.inr (Or.inr (Or.inr (Or.inr ⟨by simpa using e,lt_list.2.1⟩)))
 · rename_i e1 e2 e3 e4
   rw [if_neg e1,if_neg e2,if_neg e3,if_neg e4] at h
   simp at e1 e2 e3 e4
   rcases h with h | h | h | h | h
   · exact Or.inl ⟨h,h⟩
   · exact absurd h e1
   · exact absurd h e2
   · exact absurd h e3
   · exact absurd h e4
theorem holds_turn {op: ByteArray} {a b: Vv} (h: (op.toList = [61] /\ (turnN op).toList = [61]) \/ (op.toList = [60] /\ (turnN op).toList = [62]) \/ (op.toList = [60,61] /\ (turnN op).toList = [62,61]) \/ (op.toList = [62] /\ (turnN op).toList = [60]) \/ (op.toList = [62,61] /\ (turnN op).toList = [60,61])) :
 holdsE (turnN op) b.k b.n b.s a.k a.n a.s = holdsE op a.k a.n a.s b.k b.n b.s /\ holdsT (turnN op) b.k b.n b.s a.k a.n a.s = holdsT op a.k a.n a.s b.k b.n b.s := by
 have hk: knownB (turnN op) = true /\ knownB op = true := by rcases h with ⟨h1,h2⟩ | ⟨h1,h2⟩ | ⟨h1,h2⟩ | ⟨h1,h2⟩ | ⟨h1,h2⟩ <;> simp [knownB,h1,h2]
 have hB: holdsB (turnN op) (ordI b.k b.n b.s a.k a.n a.s) = holdsB op (ordI a.k a.n a.s b.k b.n b.s) := by
  rw [ordI_swap a.k a.n a.s b.k b.n b.s]
  have hr := ordI_range a.k a.n a.s b.k b.n b.s
  generalize ordI a.k a.n a.s b.k b.n b.s = c at *
  rcases h with ⟨h1,h2⟩ | ⟨h1,h2⟩ | ⟨h1,h2⟩ | ⟨h1,h2⟩ | ⟨h1,h2⟩ <;> rcases hr with rfl | rfl | rfl <;> simp [holdsB,h1,h2]
 have hor: (b.k == 0 || a.k == 0) = (a.k == 0 || b.k == 0) := Bool.or_comm _ _
 have hne: (b.k != a.k) = (a.k != b.k) := by
  cases h1: (b.k != a.k) <;> cases h2: (a.k != b.k) <;> simp at h1 h2 <;> first | rfl | omega
 have hrr: (!true || !rightB b.k b.n b.s || !rightB a.k a.n a.s) = (!true || !rightB a.k a.n a.s || !rightB b.k b.n b.s) := by cases rightB b.k b.n b.s <;> cases rightB a.k a.n a.s <;> rfl
 unfold holdsE holdsT
 rw [hk.1,hk.2,hB,hor,hne,hrr]
 exact ⟨rfl,rfl⟩
theorem colN_ev {n: Nat} {r: RowL} {k: NL} (h: isColN k = true): evN (n + 1) [r] k = match colV r.l k.col with | none => (vz,15) | some u => (u,0) := by
 unfold isColN at h
 simp at h
 obtain ⟨⟨h1,h2⟩,h3⟩ := h
 have hk: kidsN k.op = 0 := by unfold kidsN; simp [h1]
 have hv: (k.op.toList == nVALUE) = false := by rw [h1]; rfl
 have hlen: k.kids.length = 0 := by simp [h3]
 unfold evN
 rw [if_pos (by rw [hk,hlen]; rfl),if_neg (by simp [hv]),if_pos (by simp [h1]),h2]
 unfold evCol colV
 rw [if_neg (by omega)]
 have h0: ([r]: List RowL)[Int.toNat 0]? = some r := rfl
 simp only [h0]
 split
 · rfl
 · rfl
theorem knownN_ev {n: Nat} {rs: List RowL} {k: NL} (h: isKnownN k = true): evN (n + 1) rs k = (k.val,0) /\ isZ k.val = false := by
 unfold isKnownN at h
 simp at h
 obtain ⟨⟨h1,h2⟩,h3⟩ := h
 have hk: kidsN k.op = 0 := by unfold kidsN; simp [h1]
 have hlen: k.kids.length = 0 := by simp [h3]
 unfold evN
 rw [if_pos (by rw [hk,hlen]; rfl),if_pos (by simp [h1])]
 exact ⟨rfl,h2⟩
theorem trE_of (t: Int) (h: t = 0 \/ t = 1 \/ t = 2): trE (ofVv t,0) = (t,0) := by
 rcases h with rfl | rfl | rfl <;> rfl
theorem two_ev {n: Nat} {r: RowL} {x a b: NL} (hx: x.kids = [a,b]) (ho: x.op.toList = [61] \/ x.op.toList = [60] \/ x.op.toList = [60,61] \/ x.op.toList = [62] \/ x.op.toList = [62,61]): evN (n + 1) [r] x = twoE x.op (evN n [r] a) (evN n [r] b) := by
 have hk: kidsN x.op = 2 := by unfold kidsN; rcases ho with h | h | h | h | h <;> (rw [h]; rfl)
 conv => lhs; unfold evN
 rw [if_pos (by rw [hk,hx]; rfl),if_neg (by rcases ho with h | h | h | h | h <;> (rw [h]; decide)),if_neg (by rcases ho with h | h | h | h | h <;> (rw [h]; decide)),if_neg (by rcases ho with h | h | h | h | h <;> (rw [h]; decide)),if_neg (by rcases ho with h | h | h | h | h <;> (rw [h]; decide)),if_neg (by rw [hx]; simp),hx]
 simp only [List.headD_cons,List.tail_cons]
theorem twoV_cmp {op: ByteArray} {a b: Vv} (ho: op.toList = [61] \/ op.toList = [60] \/ op.toList = [60,61] \/ op.toList = [62] \/ op.toList = [62,61]): twoV op a b = errOr (ofVv (holdsT op a.k a.n a.s b.k b.n b.s)) (holdsE op a.k a.n a.s b.k b.n b.s) := by
 unfold twoV
 rw [if_neg (by rcases ho with h | h | h | h | h <;> (rw [h]; decide))]
theorem cmpN_true {n: Nat} {r: RowL} {op: ByteArray} {a b: NL} {y: VE} (h: (cmpN op a b).2 = true) (hy: ∀ u,colV r.l a.col = some u -> y = errOr (ofVv (holdsT op u.k u.n u.s b.val.k b.val.n b.val.s)) (holdsE op u.k u.n u.s b.val.k b.val.n b.val.s)) (hn: colV r.l a.col = none -> y.2 ≠ 0) (h0: y.2 = 0): metT r.l (cmpN op a b).1 = ((trE y).1 == 1) := by
 unfold cmpN at h ⊢
 simp only [Bool.and_eq_true] at h
 obtain ⟨⟨hb,hc⟩,hv⟩ := h
 have hz := (knownN_ev (n := n) (rs := [r]) hv).2
 cases hcol: colV r.l a.col with
 | none => exact absurd h0 (hn hcol)
 | some u =>
  rw [metT_at (v := u) hcol]
  have hyy := hy u hcol
  rw [hyy] at h0
  have hE: holdsE op u.k u.n u.s b.val.k b.val.n b.val.s = 0 := by
   unfold errOr at h0
   split at h0
   · rename_i e; simpa using e
   · exact h0
  rw [hyy]
  show inB (boundsN op.toList b.val).1 (boundsN op.toList b.val).2.1 u = _
  rw [cmp_true hz hE hb]
  unfold errOr
  rw [if_pos (by simpa using hE),trE_of _ (holdsT_range op u.k u.n u.s b.val.k b.val.n b.val.s)]
theorem test_true {n: Nat} {r: RowL} {x: NL} (hr: ∀ u ∈ r.l,rightB u.k u.n u.s = true) (h: (testN x).2 = true) (h0: (evN (n + 2) [r] x).2 = 0): metT r.l (testN x).1 = ((trE (evN (n + 2) [r] x)).1 == 1) := by
 unfold testN at h ⊢
 split at h
 · rename_i k hk
   simp only [Bool.and_eq_true,beq_iff_eq] at h ⊢
   obtain ⟨ho,hc⟩ := h
   have hev: evN (n + 2) [r] x = oneE x.op.toList (evN (n + 1) [r] k) := by
    have hkn: kidsN x.op = 1 := by unfold kidsN; rw [ho]; rfl
    conv => lhs; unfold evN
    rw [if_pos (by rw [hkn,hk]; rfl),if_neg (by rw [ho]; decide),if_neg (by rw [ho]; decide),if_neg (by rw [ho]; decide),if_neg (by rw [ho]; decide),if_pos (by rw [hk]; rfl),hk]
    rfl
   rw [hev,colN_ev hc] at h0 ⊢
   cases hcol: colV r.l k.col with
   | none => rw [hcol] at h0; cases h0
   | some u =>
    have hur: rightB u.k u.n u.s = true := by
     unfold colV at hcol
     split at hcol
     · cases hcol
     · exact hr u (List.mem_of_getElem? hcol)
    have hd := ord_null hur
    have hsz := ordV_swap u vz
    rw [metT_at (v := u) hcol]
    have hone: oneE x.op.toList (u,0) = (ofVv (if isZ u then 1 else 0),0) := by rw [ho]; rfl
    show inB nullBd nullBd u = ((trE (oneE x.op.toList (u,0))).1 == 1)
    rw [hone,trE_of _ (by cases isZ u <;> simp)]
    unfold inB letsB nullBd
    by_cases hu: u.k = 0
    · have := right_nullV hur hu
      rw [if_pos hu] at hd
      rw [isZ_iff.2 ⟨hu,this.1,this.2⟩,hsz,hd]
      rfl
    · have hz: isZ u = false := Bool.eq_false_iff.2 fun e => hu (isZ_iff.1 e).1
      rw [if_neg hu] at hd
      rw [hz,hsz,hd]
      rfl
 · rename_i a b hk
   unfold comparedN at h ⊢
   split at h
   · rename_i hb
     simp only [hb,if_true]
     have hbo: (boundsN (turnN x.op).toList a.val).2.2 = true /\ isColN b = true /\ isKnownN a = true := by
      unfold cmpN at h
      simp only [Bool.and_eq_true] at h
      exact ⟨h.1.1,h.1.2,h.2⟩
     have ht := turn_ops (bounds_ops hbo.1)
     have ho: x.op.toList = [61] \/ x.op.toList = [60] \/ x.op.toList = [60,61] \/ x.op.toList = [62] \/ x.op.toList = [62,61] := by rcases ht with h | h | h | h | h <;> simp [h.1]
     have hev := two_ev (n := n + 1) (r := r) hk ho
     rw [(knownN_ev (n := n) hbo.2.2).1,colN_ev (n := n) hbo.2.1] at hev
     refine cmpN_true (n := n) h (fun u hu => ?_) (fun hn => ?_) h0
     · rw [hev,hu,(holds_turn (a := a.val) (b := u) ht).1,(holds_turn (a := a.val) (b := u) ht).2]
       show twoV x.op a.val u = _
       exact twoV_cmp ho
     · rw [hev,hn]
       show (15: Int) ≠ 0
       decide
   · rename_i hb
     have hb': isColN b = false := by simpa using hb
     simp only [hb',Bool.false_eq_true,if_false]
     have hbo: (boundsN x.op.toList b.val).2.2 = true /\ isColN a = true /\ isKnownN b = true := by
      unfold cmpN at h
      simp only [Bool.and_eq_true] at h
      exact ⟨h.1.1,h.1.2,h.2⟩
     have ho := bounds_ops hbo.1
     have hev := two_ev (n := n + 1) (r := r) hk ho
     rw [(knownN_ev (n := n) hbo.2.2).1,colN_ev (n := n) hbo.2.1] at hev
     refine cmpN_true (n := n) h (fun u hu => ?_) (fun hn => ?_) h0
     · rw [hev,hu]
       show twoV x.op u b.val = _
       exact twoV_cmp ho
     · rw [hev,hn]
       show (15: Int) ≠ 0
       decide
 · cases h
theorem all_atN2 {f: NL -> Bool} {g: NL -> Bool}: ∀ {l m: List NL},l.length = m.length -> (∀ (j: Nat) k k',l[j]? = some k -> m[j]? = some k' -> f k = g k') -> l.all f = m.all g
 | [],[],_,_ => rfl
 | x :: l,y :: m,hl,h => by
  rw [List.all_cons,List.all_cons,h 0 x y rfl rfl,all_atN2 (by simpa using hl) fun j k k' h1 h2 => h (j + 1) k k' (by simpa using h1) (by simpa using h2)]
 | [],_ :: _,hl,_ => by simp at hl
 | _ :: _,[],hl,_ => by simp at hl
theorem LikeN.safe2: ∀ {n: Nat} {x y: NL},LikeN n x y -> safeN n x = safeN n y
 | 0,_,_,_ => rfl
 | n + 1,x,y,h => by
  unfold safeN
  rw [h.1,all_atN2 h.2.2.2.2.2.2.1 fun j k k' a b => LikeN.safe2 (h.2.2.2.2.2.2.2 j k k' a b)]
theorem chk_deep: ∀ {n: Nat} {l: List VarL} {x: XL},(chk n l x).2.2 = 0 -> deepN n (chk n l x).1 = false
 | 0,_,_,h => by cases h
 | n + 1,l, .mk xo xk xn xs xv xc xa xp kids,h => by
  rw [chk_mk] at h ⊢
  split at h
  · rename_i e; rw [if_pos e]; rfl
  · rename_i e
    rw [if_neg e]
    split at h
    · rename_i e2
      rw [if_pos e2]
      unfold chkPlace at h ⊢
      split at h
      · cases h
      · rfl
    · rename_i e2
      rw [if_neg e2]
      match kids,h with
      | [],h => cases h
      | [k],h =>
       simp only [chkKids,chkOne] at h ⊢
       split at h
       · rename_i e3
         rw [if_pos e3]
         unfold chkTyped at h ⊢
         split at h
         · cases h
         · show [(chk n l k).1].any (deepN n) = false
           simp [chk_deep (n := n) (l := l) (x := k) (by simpa using e3)]
       · rename_i e3
         simp only [] at h
         rw [h] at e3
         exact absurd rfl e3
      | k :: k2 :: ks,h =>
       simp only [chkKids,chkTwo] at h ⊢
       split at h
       · rename_i e3
         rw [if_pos e3]
         split at h
         · rename_i e4
           rw [if_pos e4]
           unfold chkTyped at h ⊢
           split at h
           · cases h
           · show [(chk n l k).1,(chk n l k2).1].any (deepN n) = false
             simp [chk_deep (n := n) (l := l) (x := k) (by simpa using e3),chk_deep (n := n) (l := l) (x := k2) (by simpa using e4)]
         · rename_i e4
           simp only [] at h
           rw [h] at e4
           exact absurd rfl e4
       · rename_i e3
         simp only [] at h
         rw [h] at e3
         exact absurd rfl e3
theorem evN_zn (rs: List RowL) (n: Nat): evN n rs zNL = (vz,15) := by
 cases n with
 | zero => rfl
 | succ n =>
  have h: kidsN zNL.op = -1 := by simp [zNL,NL.op,kidsN,nVALUE,nCOLUMN,nops1,nops2,nNEG,nNOT,nNULL,ByteArray.toList_eq]
  unfold evN
  rw [if_neg (by rw [h]; decide)]
theorem evN_congr {rs: List RowL} {m n: Nat} {x: NL} (h: ∀ k ∈ x.kids,evN m rs k = evN n rs k): evN (m + 1) rs x = evN (n + 1) rs x := by
 have h1: evN m rs (x.kids.headD zNL) = evN n rs (x.kids.headD zNL) := by
  cases hk: x.kids with
  | nil => rw [List.headD_nil,evN_zn,evN_zn]
  | cons a l => exact h a (by rw [hk]; exact List.mem_cons_self)
 have h2: evN m rs (x.kids.tail.headD zNL) = evN n rs (x.kids.tail.headD zNL) := by
  cases hk: x.kids with
  | nil => rw [List.tail_nil,List.headD_nil,evN_zn,evN_zn]
  | cons a l => cases l with
   | nil => rw [List.tail_cons,List.headD_nil,evN_zn,evN_zn]
   | cons b l => exact h b (by rw [hk]; simp)
 conv => lhs; unfold evN
 conv => rhs; unfold evN
 rw [h1,h2]
theorem all_congr {f g: NL -> Bool}: ∀ {l: List NL},(∀ k ∈ l,f k = g k) -> l.all f = l.all g
 | [],_ => rfl
 | x :: l,h => by rw [List.all_cons,List.all_cons,h x List.mem_cons_self,all_congr fun k hk => h k (List.mem_cons_of_mem _ hk)]
theorem deep_up (rs: List RowL): ∀ {n m: Nat} {x: NL},deepN n x = false -> n <= m -> evN m rs x = evN n rs x /\ safeN m x = safeN n x
 | 0,_,_,h,_ => by cases h
 | n + 1,0,_,_,h => absurd h (by omega)
 | n + 1,m + 1,x,h,hm => by
  simp only [deepN,List.any_eq_false] at h
  have ih := fun k hk => deep_up rs (n := n) (m := m) (x := k) (by simpa using h k hk) (by omega)
  refine ⟨evN_congr fun k hk => (ih k hk).1, ?_⟩
  unfold safeN
  rw [all_congr fun k hk => (ih k hk).2]
def andL: Nat -> NL -> List NL
 | 0,x => [x]
 | n + 1,x => if x.op.toList == nAND then x.kids.flatMap (andL n) else [x]
def LeafOk (rs: List RowL) (m: NL): Prop := ∃ k,k <= 20 /\ deepN k m = false /\ ∃ t,(t = 1 \/ t = 0) /\ Sound k rs m t
theorem sound_like {n: Nat} {rs: List RowL} {x y: NL} {t: Int} (h: Sound n rs x t) (hl: LikeN n x y): Sound n rs y t := by
 unfold Sound at h ⊢
 rw [<- hl.ev rs, <- hl.safe2]
 exact h
theorem agree_one {a: Int} (h: agreeB a 1 = true): a = 1 \/ a = 0 := by
 rcases agree_cases h with h | h | h
 · exact Or.inl h
 · exact Or.inr h
 · cases h
theorem len_two {α: Type} {l: List α} (h: l.length = 2): ∃ a b,l = [a,b] := by
 match l,h with
 | [a,b],_ => exact ⟨a,b,rfl⟩
theorem c_fst {a: NL} {b c: Int} {y0: NL} {t: Int} (h: ((a,b,c): Chk) = (y0,t,0)): y0 = a /\ c = 0 := by cases h; exact ⟨rfl,rfl⟩
theorem leaves_ok {l: List VarL} {rs: List RowL} (hF: FitAll l rs): ∀ (n: Nat) (x: XL) (y0: NL) (t: Int) (y: NL),n <= 20 -> rightX n x = true -> chk n l x = (y0,t,0) -> (t = 1 \/ t = 0) -> LikeN n y0 y -> (∀ m ∈ andL n y,LeafOk rs m) /\ (andL n y).length * 2 <= 2 ^ n
 | 0,_,_,_,_,_,h,_,_,_ => by cases h
 | n + 1,x,y0,t,y,hn,hr,hc,ht,hl => by
  have leaf: LeafOk rs y := ⟨n + 1,hn,by rw [<- hl.deep]; have := chk_deep (n := n + 1) (l := l) (x := x) (by rw [hc]); rw [hc] at this; exact this,t,ht,sound_like (sound hF (n + 1) x y0 t hr hc) hl⟩
  unfold andL
  split
  · rename_i ho
    have ho1: y.op.toList = nAND := by simpa using ho
    have ho0: y0.op.toList = nAND := by rw [hl.1]; exact ho1
    obtain ⟨xo,xk,xn,xs,xv,xc,xa,xp,kids⟩ := x
    rw [chk_mk] at hc
    split at hc
    · rename_i e
      have: y0.op = xo := by rw [(c_fst hc).1]; rfl
      rw [this] at ho0
      rw [show xo.toList = oVALUE by simpa using e] at ho0
      exact absurd ho0 (by decide)
    rename_i e1
    split at hc
    · rename_i e
      unfold chkPlace at hc
      split at hc
      · exact absurd (c_fst hc).2 (by decide)
      · have: y0.op = xo := by rw [(c_fst hc).1]; rfl
        rw [this] at ho0
        rw [show xo.toList = oCOLUMN by simpa using e] at ho0
        exact absurd ho0 (by decide)
    rename_i e2
    rw [rightX_mk,if_neg e1,if_neg e2] at hr
    simp only [Bool.and_eq_true,decide_eq_true_eq] at hr
    obtain ⟨hlen,_,hall⟩ := hr
    match kids,hc,hlen,hall with
    | [],hc,_,_ =>
     have h15: ((zNL,0,15): Chk) = (y0,t,0) := hc
     exact absurd (c_fst h15).2 (by decide)
    | [k],hc,hlen,_ =>
     exfalso
     have: y0.op = xo := by
      simp only [chkKids,chkOne] at hc
      split at hc
      · unfold chkTyped at hc
        split at hc
        · exact absurd (c_fst hc).2 (by decide)
        · rw [(c_fst hc).1]; rfl
      · rename_i e; exact absurd (c_fst hc).2 (by simpa using e)
     rw [this] at ho0
     have: kidsI xo = 2 := by
      show kidsN xo = 2
      unfold kidsN
      rw [ho0]
      rfl
     rw [this] at hlen
     simp at hlen
    | k :: k2 :: rest,hc,hlen,hall =>
     simp only [chkKids,chkTwo] at hc
     split at hc
     · rename_i g1
       split at hc
       · rename_i g2
         unfold chkTyped at hc
         split at hc
         · exact absurd (c_fst hc).2 (by decide)
         · rename_i t' hty
           have hy0 := (c_fst hc).1.symm
           have hop: y0.op = xo := by rw [<- hy0]; rfl
           rw [hop] at ho0
           have hb: bothB (chk n l k).2.1 (chk n l k2).2.1 1 = true := by
            unfold typeO at hty
            rw [ho0] at hty
            rw [if_neg (by decide),if_pos (by decide)] at hty
            split at hty
            · assumption
            · cases hty
           unfold bothB at hb
           rw [Bool.and_eq_true] at hb
           have hk0: y0.kids = [(chk n l k).1,(chk n l k2).1] := by rw [<- hy0]; rfl
           simp only [List.all_cons,Bool.and_eq_true] at hall
           have hkl := hl.2.2.2.2.2.2.1
           have hkk := hl.2.2.2.2.2.2.2
           rw [hk0] at hkl hkk
           obtain ⟨z0,z1,hz⟩: ∃ z0 z1,y.kids = [z0,z1] := len_two (by simpa using hkl.symm)
           rw [hz] at hkk ⊢
           obtain ⟨i0,b0⟩ := leaves_ok hF n k (chk n l k).1 (chk n l k).2.1 z0 (by omega) hall.1 (Prod.ext rfl (Prod.ext rfl (by simpa using g1))) (agree_one hb.1) (hkk 0 _ z0 rfl rfl)
           obtain ⟨i1,b1⟩ := leaves_ok hF n k2 (chk n l k2).1 (chk n l k2).2.1 z1 (by omega) hall.2.1 (Prod.ext rfl (Prod.ext rfl (by simpa using g2))) (agree_one hb.2) (hkk 1 _ z1 rfl rfl)
           simp only [List.flatMap_cons,List.flatMap_nil,List.append_nil]
           refine ⟨fun m hm => ?_,by rw [List.length_append,Nat.pow_succ]; omega⟩
           rcases List.mem_append.1 hm with hm | hm
           · exact i0 m hm
           · exact i1 m hm
       · rename_i e; exact absurd (c_fst hc).2 (by simpa using e)
     · rename_i e; exact absurd (c_fst hc).2 (by simpa using e)
  · refine ⟨fun m hm => ?_,by have := Nat.one_le_two_pow (n := n); rw [Nat.pow_succ]; simp only [List.length_cons,List.length_nil]; omega⟩
    simp only [List.mem_cons,List.not_mem_nil,or_false] at hm
    subst hm
    exact leaf
theorem leaf_truth {rs: List RowL} {m: NL} (h: LeafOk rs m) (hs: safeN 20 m = true): (evN 30 rs m).2 = 0 /\ (trE (evN 30 rs m)).2 = 0 /\ deepN 20 m = false := by
 obtain ⟨k,hk,hd,t,ht,hS⟩ := h
 have hu := deep_up rs hd (m := 30) (by omega)
 have hu2 := deep_up rs hd (m := 20) hk
 rw [hu2.2] at hs
 rw [hu.1]
 rcases hS with ⟨h0,hty⟩ | ⟨_,_,h3⟩
 · exact ⟨h0,trE_okS h0 hty ht,deepN_le hd hk⟩
 · rw [h3] at hs; cases hs
theorem all_true {r: RowL} (hr: ∀ u ∈ r.l,rightB u.k u.n u.s = true): ∀ {l: List NL},(∀ m ∈ l,(evN 30 [r] m).2 = 0 /\ (trE (evN 30 [r] m)).2 = 0) -> (allN 30 [r] l).2 = 0 /\ meetsC 30 r (testsN l) (restN l) = (allN 30 [r] l).1
 | [],_ => ⟨rfl,rfl⟩
 | x :: l,h => by
  obtain ⟨ih1,ih2⟩ := all_true hr (l := l) fun m hm => h m (List.mem_cons_of_mem _ hm)
  obtain ⟨h0,h1⟩ := h x List.mem_cons_self
  have hst: allN 30 [r] (x :: l) = if (trE (evN 30 [r] x)).1 == 1 then allN 30 [r] l else (false,0) := by
   rw [allN]
   unfold allStep
   rw [if_pos (by simpa using h1)]
  have hrst: ∀ k,allN 30 [r] (x :: k) = if (trE (evN 30 [r] x)).1 == 1 then allN 30 [r] k else (false,0) := fun k => by
   rw [allN]
   unfold allStep
   rw [if_pos (by simpa using h1)]
  refine ⟨by rw [hst]; split; exact ih1; rfl, ?_⟩
  rw [hst,testsN,restN]
  by_cases ht: (testN x).2 = true
  · rw [if_pos ht,if_pos ht]
    have hm := test_true (n := 28) hr ht h0
    unfold meetsC at ih2 ⊢
    rw [List.all_cons,hm,Bool.and_assoc,ih2]
    cases (trE (evN (28 + 2) [r] x)).1 == 1 <;> rfl
  · rw [if_neg ht,if_neg ht]
    unfold meetsC at ih2 ⊢
    rw [hrst]
    cases hb: (trE (evN 30 [r] x)).1 == 1
    · simp
    · simpa using ih2
theorem infoNo: (Tryz.prog.info? 44).map (fun i => (i.zero,i.size,i.bytes)) = some (some (nV zNL),7,88) := by kernel_rfl
theorem inN_turnB {B n: Nat} {w W: World} {x: NL} (h: InN n w x) (ho: OffN (fun b => b < B) n x) (hb: Below B w W) (_: B <= w.heap.size): InN n W x := h.turn ho hb.size fun b _ hp => hb.block b hp
theorem apart_walk (B: Nat): ∀ (n: Nat) (x: NL) (w: World) (v: Value) (l: List NL),B <= w.heap.size -> InN n w x -> OffN (fun b => b < B) n x -> deepN n x = false -> w.ownsRow B 44 7 v l.length (Rw.flat nC l) -> l.length + (andL n x).length <= 1000000 ->
 Calls Tryz.prog 87 #[nV x,v] w fun e W => ∃ v2,e = .returned v2 /\ W.ownsRow B 44 7 v2 (l ++ andL n x).length (Rw.flat nC (l ++ andL n x)) /\ Below B w W := by
 intro n
 induction n with
 | zero => intro x w v l _ _ _ h; cases h
 | succ n ih =>
  intro x w v l hB hI hO hd hown hlen
  obtain ⟨xo,vk,vn,vs,xv,xc,xa,xp,kids⟩ := x
  have hkl: kids.length <= 1599289640401 := hI.1.kids
  have HIk: Hid (∀ k ∈ kids,InN n w k) := hI.2.2
  have HKs: Hid (∀ W,Below B w W -> Rw.SlG nC 7 W xa kids) := fun W hb => by
   rcases hO.1 with e | e
   · have e': kids = [] := e
     rw [e']; exact Or.inl rfl
   · have h2: Rw.SlG nC 7 w xa kids := hI.2.1
     exact h2.turn hb.size fun b o ea _ => hb.block b (e b o ea)
  have HOk: Hid (∀ k ∈ kids,OffN (fun b => b < B) n k) := hO.2
  have HDk: Hid (∀ k ∈ kids,deepN n k = false) := by
   simp only [deepN,List.any_eq_false] at hd
   exact fun k hk => by simpa using hd k hk
  have HOw := Rw.dh hown
  obtain ⟨va,vc,rfl⟩ := Rw.owns_slice hown
  clear hI hO hd hown
  show Calls Tryz.prog 87 #[.agg #[.string xo, .int .i64 vk, .int .i64 vn, .string vs, .int .i64 xv, .int .i64 xc, .slice xa kids.length xp], .slice va l.length vc] w _
  go_enter Tryz.func87,Tryz.ntmps87
  cases ho: xo.toList == nAND with
  | false =>
   have ha: andL (n + 1) (.mk xo vk vn vs xv xc xa xp kids) = [NL.mk xo vk vn vs xv xc xa xp kids] := by
    show (if xo.toList == nAND then kids.flatMap (andL n) else [NL.mk xo vk vn vs xv xc xa xp kids]) = _
    rw [ho]; rfl
   rw [ha] at hlen ⊢
   have hop: (xo.toList == [97,110,100]) = false := ho
   have sV := Rw.src_new (w.alloc (.cells #[.string xo, .int .i64 vk, .int .i64 vn, .string vs, .int .i64 xv, .int .i64 xc, .slice xa kids.length xp] 44)) (nC (.mk xo vk vn vs xv xc xa xp kids)) 44 1 1 (q := w.heap.size + 1) (by simp)
   have hb2 := below_two w (.cells #[.string xo, .int .i64 vk, .int .i64 vn, .string vs, .int .i64 xv, .int .i64 xc, .slice xa kids.length xp] 44) (.cells #[.string xo, .int .i64 vk, .int .i64 vn, .string vs, .int .i64 xv, .int .i64 xc, .slice xa kids.length xp] 44)
   have SV := Rw.dh sV
   have HB2 := Rw.dh hb2
   clear sV hb2
   go_wp2_with (at_builtin; revert HOw)
   intro HOw
   refine append_bigN Tryz.underlying42 infoNo rfl (by decide) rfl _ _ rfl B (Nat.le_trans hB HB2.out.size) (.slice va l.length vc) l.length (Rw.flat nC l) rfl (Rw.owns_on HOw.out HB2.out) _ 1 1 (nC (.mk xo vk vn vs xv xc xa xp kids)) rfl SV.out rfl (nC_one _) (by unfold maxLen; omega) (by omega) ?_
   intro v2 W2 O2 G2 hv2
   have HF := Rw.dh ((HB2.out.mono hB).grown G2 (Nat.le_trans hB HB2.out.size) fun q hq => (HOw.out.lt q hq).1)
   have HO2: Hid (W2.ownsRow B 44 7 v2 (l ++ [NL.mk xo vk vn vs xv xc xa xp kids]).length (Rw.flat nC (l ++ [NL.mk xo vk vn vs xv xc xa xp kids]))) := by rw [Hid,List.length_append,Rw.flat_append]; simpa [Rw.flat] using O2
   clear O2 G2 hv2 SV HB2 HOw
   go_wp2_with fail
   go_ret
   exact ⟨v2,rfl,HO2.out,HF.out⟩
  | true =>
   have ha: andL (n + 1) (.mk xo vk vn vs xv xc xa xp kids) = kids.flatMap (andL n) := by
    show (if xo.toList == nAND then kids.flatMap (andL n) else [NL.mk xo vk vn vs xv xc xa xp kids]) = _
    rw [ho]; rfl
   have hop: (xo.toList == [97,110,100]) = true := ho
   have HHa := Rw.dh ha
   rw [ha] at hlen ⊢
   have HLe := Rw.dh hlen
   have hb1 := Rw.below_alloc w (.cells #[.string xo, .int .i64 vk, .int .i64 vn, .string vs, .int .i64 xv, .int .i64 xc, .slice xa kids.length xp] 44)
   have HR1: Hid ((w.alloc (.cells #[.string xo, .int .i64 vk, .int .i64 vn, .string vs, .int .i64 xv, .int .i64 xc, .slice xa kids.length xp] 44)).ownsRow B 44 7 (.slice va l.length vc) (l ++ (kids.take 0).flatMap (andL n)).length (Rw.flat nC (l ++ (kids.take 0).flatMap (andL n)))) := by
    rw [List.take_zero,List.flatMap_nil,List.append_nil]
    exact Rw.owns_on HOw.out hb1
   have HB1 := Rw.dh (hb1.mono hB)
   clear ha hlen hb1 HOw
   go_wp2_with fail
   go_loopw [1,17] (fun v i wr => ∃ j: Nat,j <= kids.length /\ i = .int .i64 (j: Int) /\ Hid (Below B w wr) /\ Hid (wr.ownsRow B 44 7 v (l ++ (kids.take j).flatMap (andL n)).length (Rw.flat nC (l ++ (kids.take j).flatMap (andL n))))) (fun _ i _ => kids.length - (intOf i).toNat)
   case atStart => exact ⟨0,Nat.zero_le _,rfl,HB1.out,HR1.out⟩
   case round =>
    obtain ⟨j,hj,rfl,HW,HR⟩ := hrel
    clear HB1 HR1
    by_cases hlt: j < kids.length
    · obtain ⟨b,o,k,rfl,hb,hk,hc⟩ := (HKs.out wr HW.out).at hlt
      have hkm := List.mem_of_getElem? hk
      have c0: wr.cell? ⟨b,o + j * 7,none⟩ = some (.string k.op) := hc 0 _ rfl
      have c1: wr.cell? ⟨b,o + j * 7 + 1,none⟩ = some (.int .i64 k.vk) := hc 1 _ rfl
      have c2: wr.cell? ⟨b,o + j * 7 + 2,none⟩ = some (.int .i64 k.vn) := hc 2 _ rfl
      have c3: wr.cell? ⟨b,o + j * 7 + 3,none⟩ = some (.string k.vs) := hc 3 _ rfl
      have c4: wr.cell? ⟨b,o + j * 7 + 4,none⟩ = some (.int .i64 k.var) := hc 4 _ rfl
      have c5: wr.cell? ⟨b,o + j * 7 + 5,none⟩ = some (.int .i64 k.col) := hc 5 _ rfl
      have c6: wr.cell? ⟨b,o + j * 7 + 6,none⟩ = some (.slice k.a k.kids.length k.c) := hc 6 _ rfl
      have htk: (kids.take (j + 1)).flatMap (andL n) = (kids.take j).flatMap (andL n) ++ andL n k := by
       rw [List.take_add_one,hk,Option.toList_some,List.flatMap_append]
       simp
      have hle: (l ++ (kids.take j).flatMap (andL n)).length + (andL n k).length <= 1000000 := by
       have h1 := HLe.out
       have h2: (kids.flatMap (andL n)).length = ((kids.take (j + 1)).flatMap (andL n)).length + ((kids.drop (j + 1)).flatMap (andL n)).length := by rw [<- List.length_append, <- List.flatMap_append,List.take_append_drop]
       rw [htk] at h2
       simp only [List.length_append] at h2 ⊢
       omega
      have hb2 := Rw.below_alloc wr (.cells #[.string k.op, .int .i64 k.vk, .int .i64 k.vn, .string k.vs, .int .i64 k.var, .int .i64 k.col, .slice k.a k.kids.length k.c] 44)
      have HC := Rw.dh (ih k _ _ _ (Nat.le_trans hB (Nat.le_trans HW.out.size hb2.size)) ((inN_turnB (HIk.out k hkm) (HOk.out k hkm) HW.out hB).on hb2) (HOk.out k hkm) (HDk.out k hkm) (Rw.owns_on HR.out hb2) hle)
      have HB2 := Rw.dh (HW.out.trans (hb2.mono (Nat.le_trans hB HW.out.size)))
      have HTk := Rw.dh htk
      obtain ⟨ra,rc,rfl⟩ := Rw.owns_slice HR.out
      unfold nV at HC
      clear hc hk hkm htk hle hb2 HR
      generalize (l ++ (kids.take j).flatMap (andL n)).length = M at *
      go_wp2_with fail
      refine HC.out.mono ?_
      rintro e w3 ⟨v3,rfl,hO3,hb3⟩
      have HB3 := Rw.dh (HB2.out.trans hb3)
      have HO3: Hid (w3.ownsRow B 44 7 v3 (l ++ (kids.take (j + 1)).flatMap (andL n)).length (Rw.flat nC (l ++ (kids.take (j + 1)).flatMap (andL n)))) := by
       rw [Hid,HTk.out, <- List.append_assoc]
       exact hO3
      clear hO3 hb3 HC HB2 c0 c1 c2 c3 c4 c5 c6
      go_wp2
      exact ⟨⟨j + 1,hlt,by go_num,HB3.out,HO3.out⟩,by simp [intOf]; omega⟩
    · have hjn: j = kids.length := by omega
      subst hjn
      have HO := HR.out
      rw [List.take_length] at HO
      have HO2 := Rw.dh HO
      clear HO HR
      go_wp2
      go_ret
      exact ⟨_,rfl,HO2.out,HW.out⟩
end Go.Proofs.YteibhbnlcpejpaaGreat
