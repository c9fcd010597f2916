import Derived.Test.YteibhbnlcpejpaaGreatMAF
import Derived.Test.YteibhbnlcpejpaaGreatMAG
import Derived.Test.YteibhbnlcpejpaaGreatMAC
import Derived.Test.YteibhbnlcpejpaaGreatMAD
set_option maxRecDepth 100000
set_option maxHeartbeats 4000000
namespace Go.Proofs.YteibhbnlcpejpaaGreat
open Go.RowKit
def opI (op: ByteArray) (m n: Int): Int := if op.toList == [43] then m + n else if op.toList == [45] then m - n else m * n
theorem number_walk (op: ByteArray) (m n: Int) (hm: fits m = true) (hn: fits n = true) (w: World): Calls Tryz.prog 217 #[.string op, .int .i64 m, .int .i64 n] w fun e w' => Tells (opI op m n) e /\ ∃ k,w' = w.drewN k := by
 go_enter Tryz.func217,Tryz.ntmps217
 by_cases h1: op.toList = [43]
 · have e1: opI op m n = m + n := by simp [opI,h1]
   go_wp2_with (go_at_call 219; refine (sum_walk _ _ hm hn _).mono ?_; rintro e w' ⟨⟨x,rfl,hx,hf⟩,rfl⟩)
   go_ret2
   rw [e1]
   exact ⟨tells_of rfl hx hf,0,rfl⟩
 by_cases h2: op.toList = [45]
 · have e1: opI op m n = m - n := by simp [opI,h2]
   clear h1
   go_wp2_with (go_at_call 220; refine (diff_walk _ _ hm hn _).mono ?_; rintro e w' ⟨⟨x,rfl,hx,hf⟩,rfl⟩)
   go_ret2
   rw [e1]
   exact ⟨tells_of rfl hx hf,0,rfl⟩
 · have e1: opI op m n = m * n := by simp [opI,h1,h2]
   have g1: (op.toList == [43]) = false := by simpa using h1
   have g2: (op.toList == [45]) = false := by simpa using h2
   go_wp2_with fail
   refine (prod_walk _ _ hm hn _).mono ?_
   rintro e w' ⟨⟨x,rfl,hx,hf⟩,k,rfl⟩
   go_wp2
   go_ret2
   rw [e1]
   exact ⟨tells_of rfl hx hf,k,rfl⟩
def catV (s t: ByteArray): Value := if s.size + t.size <= 24 then valV 3 0 (s ++ t) else valV 0 0 ⟨#[]⟩
def catE (s t: ByteArray): Int := if s.size + t.size <= 24 then 0 else 8
theorem joined_walk (s t: ByteArray) (hs: s.size <= 24) (ht: t.size <= 24) (w: World): Calls Tryz.prog 216 #[.string s, .string t] w fun e w' =>
 e = .returned (.tuple #[catV s t, .int .i64 (catE s t)]) /\ Below w.heap.size w w' := by
 go_enter Tryz.func216,Tryz.ntmps216
 by_cases h: s.size + t.size <= 24
 · rw [catV,catE,if_pos h,if_pos h]
   go_wp2
   exact bodyPost_ret (v := .tuple #[valV 3 0 (s ++ t), .int .i64 0]) (by simp [results,Tryz.results216,go_sem,valV]) rfl ⟨rfl,below_alloc _ _⟩
 · rw [catV,catE,if_neg h,if_neg h]
   go_wp2
   exact bodyPost_ret (v := .tuple #[valV 0 0 ⟨#[]⟩, .int .i64 8]) (by simp [results,Tryz.results216,go_sem,valV]) rfl ⟨rfl,below_alloc _ _⟩
def knownR (op: ByteArray): Bool := op.toList == [43] || op.toList == [45] || op.toList == [42]
def reckE (op: ByteArray) (k n: Int) (s: ByteArray) (k' n': Int) (s': ByteArray): Int :=
 if !knownR op || !rightB k n s || !rightB k' n' s' then 15 else if k == 0 || k' == 0 then 0
 else if op.toList == [43] && k == 3 && k' == 3 then catE s s' else if k != 2 || k' != 2 then 4 else if fits (opI op n n') then 0 else 7
def reckV (op: ByteArray) (k n: Int) (s: ByteArray) (k' n': Int) (s': ByteArray): Value :=
 if !knownR op || !rightB k n s || !rightB k' n' s' then valV 0 0 ⟨#[]⟩ else if k == 0 || k' == 0 then valV 0 0 ⟨#[]⟩
 else if op.toList == [43] && k == 3 && k' == 3 then catV s s' else if k != 2 || k' != 2 then valV 0 0 ⟨#[]⟩ else if fits (opI op n n') then valV 2 (opI op n n') ⟨#[]⟩ else valV 0 0 ⟨#[]⟩
def box3 (w: World) (k n: Int) (s: ByteArray) (k' n': Int) (s': ByteArray): World := (box2 w k n s k' n' s').alloc (.cells #[.int .i64 0, .int .i64 0, .string ⟨#[]⟩] 27)
theorem boxed3 (w: World) (k n: Int) (s: ByteArray) (k' n': Int) (s': ByteArray): Boxed (box3 w k n s k' n' s') w.heap.size k n s /\ Boxed (box3 w k n s k' n' s') (w.heap.size + 1) k' n' s' /\ Boxed (box3 w k n s k' n' s') (w.heap.size + 1 + 1) 0 0 ⟨#[]⟩ :=
 ⟨(boxed_fst w k n s k' n' s').below (below_alloc _ _),(boxed_snd w k n s k' n' s').below (below_alloc _ _),by
  refine ⟨?_, ?_, ?_, ?_⟩ <;> simp [box3,box2,go_sem]⟩
def Free3 (w: World) (p: Nat): Prop := p < w.heap.size /\ w.frozen? ⟨p,0,none⟩ = false /\ w.frozen? ⟨p,1,none⟩ = false /\ w.frozen? ⟨p,2,none⟩ = false
theorem Free3.below {w w': World} {p: Nat} (h: Free3 w p) (hb: Below w.heap.size w w'): Free3 w' p := by
 obtain ⟨h0,h1,h2,h3⟩ := h
 exact ⟨Nat.lt_of_lt_of_le h0 hb.size,by rw [hb.frozen h0]; exact h1,by rw [hb.frozen h0]; exact h2,by rw [hb.frozen h0]; exact h3⟩
theorem free3 (w: World) (k n: Int) (s: ByteArray) (k' n': Int) (s': ByteArray): Free3 (box3 w k n s k' n' s') (w.heap.size + 1 + 1) := by
 refine ⟨?_, ?_, ?_, ?_⟩ <;> simp [box3,box2,go_sem]
theorem below_box3 (w: World) (k n: Int) (s: ByteArray) (k' n': Int) (s': ByteArray): Below w.heap.size w (box3 w k n s k' n' s') :=
 below_on (below_box2 w k n s k' n' s') (below_alloc _ _)
theorem below_store3 {w w1: World} (hb: Below w.heap.size w w1) (x y z: Value) :
 Below w.heap.size w (((w1.setCell ⟨w.heap.size + 1 + 1,0,none⟩ x).setCell ⟨w.heap.size + 1 + 1,1,none⟩ y).setCell ⟨w.heap.size + 1 + 1,2,none⟩ z) :=
 ((hb.setCell (by simp; omega) _).setCell (by simp; omega) _).setCell (by simp; omega) _
theorem right3 {n: Int} {s: ByteArray} (h: rightB 3 n s = true): s.size <= 24 := by
 simp [rightB] at h; exact h.2
theorem reckon_walk (op: ByteArray) (k n: Int) (s: ByteArray) (k' n': Int) (s': ByteArray) (hn: fits n = true) (hn': fits n' = true) (w: World): Calls Tryz.prog 213 #[.string op,valV k n s,valV k' n' s'] w fun e w' =>
 e = .returned (.tuple #[reckV op k n s k' n' s', .int .i64 (reckE op k n s k' n' s')]) /\ Below w.heap.size w w' := by
 go_enter Tryz.func213,Tryz.ntmps213
 cases hk: knownR op
 · simp only [knownR,Bool.or_eq_false_iff] at hk
   obtain ⟨⟨g1,g2⟩,g3⟩ := hk
   unfold valV
   go_wp2
   exact bodyPost_ret (v := .tuple #[valV 0 0 ⟨#[]⟩, .int .i64 15]) (by simp [results,Tryz.results213,go_sem,valV]) rfl ⟨by simp [reckV,reckE,knownR,g1,g2,g3],below_box3 w k n s k' n' s'⟩
 have hop: op.toList = [43] \/ op.toList = [45] \/ op.toList = [42] := by
  simp only [knownR,Bool.or_eq_true,beq_iff_eq] at hk
  rcases hk with (h | h) | h <;> simp [h]
 rcases hop with h | h | h
 all_goals
  unfold valV
  go_wp2_with fail
  refine (right_walk k n s _).mono ?_
  rintro e w1 ⟨rfl,hb⟩
  obtain ⟨A0,B0,R0⟩ := boxed3 w k n s k' n' s'
  have A := A0.below hb
  have B := B0.below hb
  have R := R0.below hb
  have F := (free3 w k n s k' n' s').below hb
  replace hb := below_on (below_box3 w k n s k' n' s') hb
  clear A0 B0 R0
  obtain ⟨_,a0,a1,a2⟩ := id A
  obtain ⟨_,b0,b1,b2⟩ := id B
  obtain ⟨_,r0,r1,r2⟩ := id R
  obtain ⟨_,f0,f1,f2⟩ := id F
  cases hr: rightB k n s
  · go_wp2
    exact bodyPost_ret (v := .tuple #[valV 0 0 ⟨#[]⟩, .int .i64 15]) (by simp [results,Tryz.results213,go_sem,valV,r0,r1,r2]) rfl ⟨by simp [reckV,reckE,hr],below_store3 hb _ _ _⟩
  go_wp2_with fail
  refine (right_walk k' n' s' _).mono ?_
  rintro e w2 ⟨rfl,hb2⟩
  replace A := A.below hb2
  replace B := B.below hb2
  replace R := R.below hb2
  replace F := F.below hb2
  replace hb := below_on hb hb2
  clear hb2 a0 a1 a2 b0 b1 b2 r0 r1 r2 f0 f1 f2
  obtain ⟨_,a0,a1,a2⟩ := id A
  obtain ⟨_,b0,b1,b2⟩ := id B
  obtain ⟨_,r0,r1,r2⟩ := id R
  obtain ⟨_,f0,f1,f2⟩ := id F
  cases hr': rightB k' n' s'
  · go_wp2
    exact bodyPost_ret (v := .tuple #[valV 0 0 ⟨#[]⟩, .int .i64 15]) (by simp [results,Tryz.results213,go_sem,valV,r0,r1,r2]) rfl ⟨by simp [reckV,reckE,hr'],below_store3 hb _ _ _⟩
  by_cases z: (k == 0 || k' == 0) = true
  · have zz := z
    rw [Bool.or_eq_true] at z
    rcases z with z | z
    all_goals
     go_wp2
     all_goals exact bodyPost_ret (v := .tuple #[valV 0 0 ⟨#[]⟩, .int .i64 0]) (by simp [results,Tryz.results213,go_sem,valV,r0,r1,r2]) rfl ⟨by simp [reckV,reckE,hk,hr,hr',zz],below_store3 hb _ _ _⟩
  rw [Bool.not_eq_true,Bool.or_eq_false_iff] at z
  obtain ⟨z0,z0'⟩ := z
  by_cases t3: (k == 3 && k' == 3) = true
  · rw [Bool.and_eq_true,beq_iff_eq,beq_iff_eq] at t3
    obtain ⟨rfl,rfl⟩ := t3
    first
     | (go_wp2_with fail
        refine (joined_walk s s' (right3 hr) (right3 hr') _).mono ?_
        rintro e w3 ⟨rfl,hb3⟩
        obtain ⟨_,a0,a1,a2⟩ := A.below hb3
        obtain ⟨_,b0,b1,b2⟩ := B.below hb3
        obtain ⟨_,r0,r1,r2⟩ := R.below hb3
        obtain ⟨_,f0,f1,f2⟩ := F.below hb3
        replace hb := below_on hb hb3
        by_cases hl: s.size + s'.size <= 24
        · have hc: catV s s' = .agg #[.int .i64 3, .int .i64 0, .string (s ++ s')] := by rw [catV,if_pos hl]; rfl
          have he: catE s s' = 0 := by rw [catE,if_pos hl]
          rw [hc,he]
          go_wp2
          exact bodyPost_ret (v := .tuple #[valV 3 0 (s ++ s'), .int .i64 0]) (by simp [results,Tryz.results213,go_sem,valV,r0,r1,r2]) rfl ⟨by simp [reckV,reckE,hk,hr,hr',h,hc,he,valV],below_store3 hb _ _ _⟩
        · have hc: catV s s' = .agg #[.int .i64 0, .int .i64 0, .string ⟨#[]⟩] := by rw [catV,if_neg hl]; rfl
          have he: catE s s' = 8 := by rw [catE,if_neg hl]
          rw [hc,he]
          go_wp2
          exact bodyPost_ret (v := .tuple #[valV 0 0 ⟨#[]⟩, .int .i64 8]) (by simp [results,Tryz.results213,go_sem,valV,r0,r1,r2]) rfl ⟨by simp [reckV,reckE,hk,hr,hr',h,hc,he,valV],below_store3 hb _ _ _⟩)
     | (go_wp2
        exact bodyPost_ret (v := .tuple #[valV 0 0 ⟨#[]⟩, .int .i64 4]) (by simp [results,Tryz.results213,go_sem,valV,r0,r1,r2]) rfl ⟨by simp [reckV,reckE,hk,hr,hr',h],below_store3 hb _ _ _⟩)
  by_cases t2: (k == 2 && k' == 2) = true
  · rw [Bool.and_eq_true,beq_iff_eq,beq_iff_eq] at t2
    obtain ⟨rfl,rfl⟩ := t2
    go_wp2_with fail
    refine (number_walk op n n' hn hn' _).mono ?_
    rintro e w3 ⟨⟨x,rfl,hx,hf⟩,q,rfl⟩
    cases hv: fits (opI op n n')
    · go_wp2
      exact bodyPost_ret (v := .tuple #[valV 0 0 ⟨#[]⟩, .int .i64 7]) (by simp [results,Tryz.results213,go_sem,valV,r0,r1,r2]) rfl ⟨by simp [reckV,reckE,hk,hr,hr',hv],below_store3 (below_drewN hb q) _ _ _⟩
    · obtain rfl := hx hv
      go_wp2
      exact bodyPost_ret (v := .tuple #[valV 2 (opI op n n') ⟨#[]⟩, .int .i64 0]) (by simp [results,Tryz.results213,go_sem,valV,r0,r1,r2]) rfl ⟨by simp [reckV,reckE,hk,hr,hr',hv],below_store3 (below_drewN hb q) _ _ _⟩
  · rw [Bool.not_eq_true] at t2 t3
    have hE: reckE op k n s k' n' s' = 4 /\ reckV op k n s k' n' s' = valV 0 0 ⟨#[]⟩ := by
     have t4: (k != 2 || k' != 2) = true := by rw [bne,bne, <- Bool.not_and,t2]; rfl
     constructor
     · simp only [reckE,hk,hr,hr',z0,z0',Bool.and_assoc,t3,t4,Bool.and_false]; rfl
     · simp only [reckV,hk,hr,hr',z0,z0',Bool.and_assoc,t3,t4,Bool.and_false]; rfl
    cases c3: (k == 3)
    all_goals cases c3': (k' == 3)
    all_goals cases c2: (k == 2)
    all_goals cases c2': (k' == 2)
    all_goals first | (exfalso; rw [c2,c2'] at t2; cases t2; done) | (exfalso; rw [c3,c3'] at t3; cases t3; done) | skip
    all_goals clear t2 t3
    all_goals go_wp2
    all_goals exact bodyPost_ret (v := .tuple #[valV 0 0 ⟨#[]⟩, .int .i64 4]) (by simp [results,Tryz.results213,go_sem,valV,r0,r1,r2]) rfl ⟨by rw [hE.1,hE.2],below_store3 hb _ _ _⟩
inductive NL where
 | mk (op: ByteArray) (vk vn: Int) (vs: ByteArray) (var col: Int) (a: Option Addr) (c: Nat) (kids: List NL)
namespace NL
def op: NL -> ByteArray | mk o _ _ _ _ _ _ _ _ => o
def vk: NL -> Int | mk _ k _ _ _ _ _ _ _ => k
def vn: NL -> Int | mk _ _ n _ _ _ _ _ _ => n
def vs: NL -> ByteArray | mk _ _ _ s _ _ _ _ _ => s
def var: NL -> Int | mk _ _ _ _ v _ _ _ _ => v
def col: NL -> Int | mk _ _ _ _ _ c _ _ _ => c
def a: NL -> Option Addr | mk _ _ _ _ _ _ a _ _ => a
def c: NL -> Nat | mk _ _ _ _ _ _ _ c _ => c
def kids: NL -> List NL | mk _ _ _ _ _ _ _ _ l => l
end NL
def zNL: NL := .mk ⟨#[]⟩ 0 0 ⟨#[]⟩ 0 0 none 0 []
def nC (x: NL): List Value := [.string x.op, .int .i64 x.vk, .int .i64 x.vn, .string x.vs, .int .i64 x.var, .int .i64 x.col, .slice x.a x.kids.length x.c]
theorem nC_len (x: NL): (nC x).length = 7 := rfl
theorem nC_one (x: NL): ∀ u ∈ nC x,u.oneCell' = true := by
 intro u hu
 simp only [nC,List.mem_cons,List.not_mem_nil,or_false] at hu
 rcases hu with rfl | rfl | rfl | rfl | rfl | rfl | rfl <;> rfl
def nV (x: NL): Value := .agg #[.string x.op, .int .i64 x.vk, .int .i64 x.vn, .string x.vs, .int .i64 x.var, .int .i64 x.col, .slice x.a x.kids.length x.c]
structure NOk (x: NL): Prop where
 k: fits x.vk = true
 n: fits x.vn = true
 op: x.op.size <= 281474976710656
 vs: x.vs.size <= 281474976710656
 kids: x.kids.length <= 1599289640401
def InN: Nat -> World -> NL -> Prop
 | 0,_,_ => True
 | n + 1,w,x => NOk x /\ Rw.SlG nC 7 w x.a x.kids /\ ∀ k ∈ x.kids,InN n w k
theorem InN.on: ∀ {n: Nat} {w W: World} {x: NL},InN n w x -> Below w.heap.size w W -> InN n W x
 | 0,_,_,_,_,_ => trivial
 | _ + 1,_,_,_,h,hb => ⟨h.1,h.2.1.below hb,fun k hk => (h.2.2 k hk).on hb⟩
theorem InN.le: ∀ {n m: Nat} {w: World} {x: NL},InN n w x -> m <= n -> InN m w x
 | _,0,_,_,_,_ => trivial
 | 0,m + 1,_,_,_,h => absurd h (by omega)
 | n + 1,m + 1,_,_,h,hm => ⟨h.1,h.2.1,fun k hk => (h.2.2 k hk).le (by omega)⟩
def deepN: Nat -> NL -> Bool
 | 0,_ => true
 | n + 1,x => x.kids.any (deepN n)
theorem InN.deep: ∀ {n: Nat} {w: World} {x: NL},InN n w x -> deepN n x = false -> ∀ m,InN m w x
 | 0,_,_,_,h => by cases h
 | n + 1,w,x,hi,h => fun m => by
  cases m with
  | zero => trivial
  | succ m =>
   simp only [deepN,List.any_eq_false] at h
   exact ⟨hi.1,hi.2.1,fun k hk => InN.deep (hi.2.2 k hk) (by simpa using h k hk) m⟩
theorem deepN_le: ∀ {n m: Nat} {x: NL},deepN n x = false -> n <= m -> deepN m x = false
 | 0,_,_,h,_ => by cases h
 | n + 1,0,_,_,h => absurd h (by omega)
 | n + 1,m + 1,x,h,hm => by
  simp only [deepN,List.any_eq_false] at h ⊢
  intro k hk
  have := deepN_le (x := k) (by simpa using h k hk) (Nat.le_of_succ_le_succ hm)
  simp [this]
def LikeN: Nat -> NL -> NL -> Prop
 | 0,_,_ => True
 | n + 1,x,y => x.op = y.op /\ x.vk = y.vk /\ x.vn = y.vn /\ x.vs = y.vs /\ x.var = y.var /\ x.col = y.col /\ x.kids.length = y.kids.length /\ ∀ (j: Nat) k k',x.kids[j]? = some k -> y.kids[j]? = some k' -> LikeN n k k'
theorem any_atN {f: NL -> Bool} {g: NL -> Bool}: ∀ {l m: List NL},l.length = m.length -> (∀ (j: Nat) k k',l[j]? = some k -> m[j]? = some k' -> f k = g k') -> l.any f = m.any g
 | [],[],_,_ => rfl
 | x :: l,y :: m,hl,h => by
  rw [List.any_cons,List.any_cons,h 0 x y rfl rfl,any_atN (by simpa using hl) fun j k k' h1 h2 => h (j + 1) k k' (by simpa using h1) (by simpa using h2)]
 | [],_ :: _,hl,_ => by simp at hl
 | _ :: _,[],hl,_ => by simp at hl
theorem LikeN.deep: ∀ {n: Nat} {x y: NL},LikeN n x y -> deepN n x = deepN n y
 | 0,_,_,_ => rfl
 | _ + 1,_,_,h => any_atN h.2.2.2.2.2.2.1 fun j k k' a b => LikeN.deep (h.2.2.2.2.2.2.2 j k k' a b)
structure Vv where
 k: Int
 n: Int
 s: ByteArray
def vvV (v: Vv): Value := valV v.k v.n v.s
def vvC (v: Vv): List Value := [.int .i64 v.k, .int .i64 v.n, .string v.s]
theorem vvC_len (v: Vv): (vvC v).length = 3 := rfl
def vz: Vv := ⟨0,0,⟨#[]⟩⟩
def VFit (v: Vv): Prop := fits v.k = true /\ fits v.n = true /\ v.s.size <= 281474976710656
structure RowL where
 a: Option Addr
 c: Nat
 l: List Vv
def rowC (r: RowL): List Value := [.slice r.a r.l.length r.c]
structure RowsIn (w: World) (a: Option Addr) (rs: List RowL): Prop where
 rows: Rw.SlG rowC 1 w a rs
 vals: ∀ r ∈ rs,Rw.SlG vvC 3 w r.a r.l
theorem RowsIn.on {w W: World} {a: Option Addr} {rs: List RowL} (h: RowsIn w a rs) (hb: Below w.heap.size w W): RowsIn W a rs := ⟨h.rows.below hb,fun r hr => (h.vals r hr).below hb⟩
def RowsFit (rs: List RowL): Prop := rs.length <= maxLen /\ ∀ r ∈ rs,r.l.length <= maxLen /\ ∀ v ∈ r.l,VFit v
def nVALUE: List UInt8 := [118,97,108,117,101]
def nCOLUMN: List UInt8 := [99,111,108,117,109,110]
def nNEG: List UInt8 := [110,101,103]
def nNOT: List UInt8 := [110,111,116]
def nNULL: List UInt8 := [110,117,108,108]
def nAND: List UInt8 := [97,110,100]
def nOR: List UInt8 := [111,114]
def nops1: List (List UInt8) := [nNEG,nNOT,nNULL]
def nops2: List (List UInt8) := [[43],[45],[42],[61],[60,62],[60],[60,61],[62],[62,61],[97,110,100],[111,114]]
def kidsN (s: ByteArray): Int :=
 if s.toList == nVALUE || s.toList == nCOLUMN then 0 else if nops1.contains s.toList then 1 else if nops2.contains s.toList then 2 else -1
end Go.Proofs.YteibhbnlcpejpaaGreat
