import Derived.Test.YteibhbnlcpejpaaGreatMAF
import Derived.Test.YteibhbnlcpejpaaGreatMAG
set_option maxRecDepth 100000
set_option maxHeartbeats 4000000
namespace Go.Proofs.YteibhbnlcpejpaaGreat
open Go.RowKit
def opI (op: ByteArray) (m n: Int): Int := if op.toList == [43] then m + n else if op.toList == [45] then m - n else m * n
theorem number_walk (op: ByteArray) (m n: Int) (hm: fits m = true) (hn: fits n = true) (w: World): Calls Tryz.prog 217 #[.string op, .int .i64 m, .int .i64 n] w fun e w' => Tells (opI op m n) e /\ ∃ k,w' = w.drewN k := by
 go_enter Tryz.func217,Tryz.ntmps217
 by_cases h1: op.toList = [43]
 · have e1: opI op m n = m + n := by simp [opI,h1]
   go_wp2_with (go_at_call 219; refine (sum_walk _ _ hm hn _).mono ?_; rintro e w' ⟨⟨x,rfl,hx,hf⟩,rfl⟩)
   go_ret2
   rw [e1]
   exact ⟨tells_of rfl hx hf,0,rfl⟩
 by_cases h2: op.toList = [45]
 · have e1: opI op m n = m - n := by simp [opI,h2]
   clear h1
   go_wp2_with (go_at_call 220; refine (diff_walk _ _ hm hn _).mono ?_; rintro e w' ⟨⟨x,rfl,hx,hf⟩,rfl⟩)
   go_ret2
   rw [e1]
   exact ⟨tells_of rfl hx hf,0,rfl⟩
 · have e1: opI op m n = m * n := by simp [opI,h1,h2]
   have g1: (op.toList == [43]) = false := by simpa using h1
   have g2: (op.toList == [45]) = false := by simpa using h2
   go_wp2_with fail
   refine (prod_walk _ _ hm hn _).mono ?_
   rintro e w' ⟨⟨x,rfl,hx,hf⟩,k,rfl⟩
   go_wp2
   go_ret2
   rw [e1]
   exact ⟨tells_of rfl hx hf,k,rfl⟩
def catV (s t: ByteArray): Value := if s.size + t.size <= 24 then valV 3 0 (s ++ t) else valV 0 0 ⟨#[]⟩
def catE (s t: ByteArray): Int := if s.size + t.size <= 24 then 0 else 8
theorem joined_walk (s t: ByteArray) (hs: s.size <= 24) (ht: t.size <= 24) (w: World): Calls Tryz.prog 216 #[.string s, .string t] w fun e w' =>
 e = .returned (.tuple #[catV s t, .int .i64 (catE s t)]) /\ Below w.heap.size w w' := by
 go_enter Tryz.func216,Tryz.ntmps216
 by_cases h: s.size + t.size <= 24
 · rw [catV,catE,if_pos h,if_pos h]
   go_wp2
   exact bodyPost_ret (v := .tuple #[valV 3 0 (s ++ t), .int .i64 0]) (by simp [results,Tryz.results216,go_sem,valV]) rfl ⟨rfl,below_alloc _ _⟩
 · rw [catV,catE,if_neg h,if_neg h]
   go_wp2
   exact bodyPost_ret (v := .tuple #[valV 0 0 ⟨#[]⟩, .int .i64 8]) (by simp [results,Tryz.results216,go_sem,valV]) rfl ⟨rfl,below_alloc _ _⟩
def knownR (op: ByteArray): Bool := op.toList == [43] || op.toList == [45] || op.toList == [42]
def reckE (op: ByteArray) (k n: Int) (s: ByteArray) (k' n': Int) (s': ByteArray): Int :=
 if !knownR op || !rightB k n s || !rightB k' n' s' then 15 else if k == 0 || k' == 0 then 0
 else if op.toList == [43] && k == 3 && k' == 3 then catE s s' else if k != 2 || k' != 2 then 4 else if fits (opI op n n') then 0 else 7
def reckV (op: ByteArray) (k n: Int) (s: ByteArray) (k' n': Int) (s': ByteArray): Value :=
 if !knownR op || !rightB k n s || !rightB k' n' s' then valV 0 0 ⟨#[]⟩ else if k == 0 || k' == 0 then valV 0 0 ⟨#[]⟩
 else if op.toList == [43] && k == 3 && k' == 3 then catV s s' else if k != 2 || k' != 2 then valV 0 0 ⟨#[]⟩ else if fits (opI op n n') then valV 2 (opI op n n') ⟨#[]⟩ else valV 0 0 ⟨#[]⟩
def box3 (w: World) (k n: Int) (s: ByteArray) (k' n': Int) (s': ByteArray): World := (box2 w k n s k' n' s').alloc (.cells #[.int .i64 0, .int .i64 0, .string ⟨#[]⟩] 27)
theorem boxed3 (w: World) (k n: Int) (s: ByteArray) (k' n': Int) (s': ByteArray): Boxed (box3 w k n s k' n' s') w.heap.size k n s /\ Boxed (box3 w k n s k' n' s') (w.heap.size + 1) k' n' s' /\ Boxed (box3 w k n s k' n' s') (w.heap.size + 1 + 1) 0 0 ⟨#[]⟩ :=
 ⟨(boxed_fst w k n s k' n' s').below (below_alloc _ _),(boxed_snd w k n s k' n' s').below (below_alloc _ _),by
  refine ⟨?_, ?_, ?_, ?_⟩ <;> simp [box3,box2,go_sem]⟩
def Free3 (w: World) (p: Nat): Prop := p < w.heap.size /\ w.frozen? ⟨p,0,none⟩ = false /\ w.frozen? ⟨p,1,none⟩ = false /\ w.frozen? ⟨p,2,none⟩ = false
theorem Free3.below {w w': World} {p: Nat} (h: Free3 w p) (hb: Below w.heap.size w w'): Free3 w' p := by
 obtain ⟨h0,h1,h2,h3⟩ := h
 exact ⟨Nat.lt_of_lt_of_le h0 hb.size,by rw [hb.frozen h0]; exact h1,by rw [hb.frozen h0]; exact h2,by rw [hb.frozen h0]; exact h3⟩
theorem free3 (w: World) (k n: Int) (s: ByteArray) (k' n': Int) (s': ByteArray): Free3 (box3 w k n s k' n' s') (w.heap.size + 1 + 1) := by
 refine ⟨?_, ?_, ?_, ?_⟩ <;> simp [box3,box2,go_sem]
theorem below_box3 (w: World) (k n: Int) (s: ByteArray) (k' n': Int) (s': ByteArray): Below w.heap.size w (box3 w k n s k' n' s') :=
 below_on (below_box2 w k n s k' n' s') (below_alloc _ _)
theorem below_store3 {w w1: World} (hb: Below w.heap.size w w1) (x y z: Value) :
 Below w.heap.size w (((w1.setCell ⟨w.heap.size + 1 + 1,0,none⟩ x).setCell ⟨w.heap.size + 1 + 1,1,none⟩ y).setCell ⟨w.heap.size + 1 + 1,2,none⟩ z) :=
 ((hb.setCell (by simp; omega) _).setCell (by simp; omega) _).setCell (by simp; omega) _
theorem right3 {n: Int} {s: ByteArray} (h: rightB 3 n s = true): s.size <= 24 := by
 simp [rightB] at h; exact h.2
theorem reckon_walk (op: ByteArray) (k n: Int) (s: ByteArray) (k' n': Int) (s': ByteArray) (hn: fits n = true) (hn': fits n' = true) (w: World): Calls Tryz.prog 213 #[.string op,valV k n s,valV k' n' s'] w fun e w' =>
 e = .returned (.tuple #[reckV op k n s k' n' s', .int .i64 (reckE op k n s k' n' s')]) /\ Below w.heap.size w w' := by
 go_enter Tryz.func213,Tryz.ntmps213
 cases hk: knownR op
 · simp only [knownR,Bool.or_eq_false_iff] at hk
   obtain ⟨⟨g1,g2⟩,g3⟩ := hk
   unfold valV
   go_wp2
   exact bodyPost_ret (v := .tuple #[valV 0 0 ⟨#[]⟩, .int .i64 15]) (by simp [results,Tryz.results213,go_sem,valV]) rfl ⟨by simp [reckV,reckE,knownR,g1,g2,g3],below_box3 w k n s k' n' s'⟩
 have hop: op.toList = [43] \/ op.toList = [45] \/ op.toList = [42] := by
  simp only [knownR,Bool.or_eq_true,beq_iff_eq] at hk
  rcases hk with (h | h) | h <;> simp [h]
 rcases hop with h | h | h
 all_goals
  unfold valV
  go_wp2_with fail
  refine (right_walk k n s _).mono ?_
  rintro e w1 ⟨rfl,hb⟩
  obtain ⟨A0,B0,R0⟩ := boxed3 w k n s k' n' s'
  have A := A0.below hb
  have B := B0.below hb
  have R := R0.below hb
  have F := (free3 w k n s k' n' s').below hb
  replace hb := below_on (below_box3 w k n s k' n' s') hb
  clear A0 B0 R0
  obtain ⟨_,a0,a1,a2⟩ := id A
  obtain ⟨_,b0,b1,b2⟩ := id B
  obtain ⟨_,r0,r1,r2⟩ := id R
  obtain ⟨_,f0,f1,f2⟩ := id F
  cases hr: rightB k n s
  · go_wp2
    exact bodyPost_ret (v := .tuple #[valV 0 0 ⟨#[]⟩, .int .i64 15]) (by simp [results,Tryz.results213,go_sem,valV,r0,r1,r2]) rfl ⟨by simp [reckV,reckE,hr],below_store3 hb _ _ _⟩
  go_wp2_with fail
  refine (right_walk k' n' s' _).mono ?_
  rintro e w2 ⟨rfl,hb2⟩
  replace A := A.below hb2
  replace B := B.below hb2
  replace R := R.below hb2
  replace F := F.below hb2
  replace hb := below_on hb hb2
  clear hb2 a0 a1 a2 b0 b1 b2 r0 r1 r2 f0 f1 f2
  obtain ⟨_,a0,a1,a2⟩ := id A
  obtain ⟨_,b0,b1,b2⟩ := id B
  obtain ⟨_,r0,r1,r2⟩ := id R
  obtain ⟨_,f0,f1,f2⟩ := id F
  cases hr': rightB k' n' s'
  · go_wp2
    exact bodyPost_ret (v := .tuple #[valV 0 0 ⟨#[]⟩, .int .i64 15]) (by simp [results,Tryz.results213,go_sem,valV,r0,r1,r2]) rfl ⟨by simp [reckV,reckE,hr'],below_store3 hb _ _ _⟩
  by_cases z: (k == 0 || k' == 0) = true
  · have zz := z
    rw [Bool.or_eq_true] at z
    rcases z with z | z
    all_goals
     go_wp2
     all_goals exact bodyPost_ret (v := .tuple #[valV 0 0 ⟨#[]⟩, .int .i64 0]) (by simp [results,Tryz.results213,go_sem,valV,r0,r1,r2]) rfl ⟨by simp [reckV,reckE,hk,hr,hr',zz],below_store3 hb _ _ _⟩
  rw [Bool.not_eq_true,Bool.or_eq_false_iff] at z
  obtain ⟨z0,z0'⟩ := z
  by_cases t3: (k == 3 && k' == 3) = true
  · rw [Bool.and_eq_true,beq_iff_eq,beq_iff_eq] at t3
    obtain ⟨rfl,rfl⟩ := t3
    first
     | (go_wp2_with fail
        refine (joined_walk s s' (right3 hr) (right3 hr') _).mono ?_
        rintro e w3 ⟨rfl,hb3⟩
        obtain ⟨_,a0,a1,a2⟩ := A.below hb3
        obtain ⟨_,b0,b1,b2⟩ := B.below hb3
        obtain ⟨_,r0,r1,r2⟩ := R.below hb3
        obtain ⟨_,f0,f1,f2⟩ := F.below hb3
        replace hb := below_on hb hb3
        by_cases hl: s.size + s'.size <= 24
        · have hc: catV s s' = .agg #[.int .i64 3, .int .i64 0, .string (s ++ s')] := by rw [catV,if_pos hl]; rfl
          have he: catE s s' = 0 := by rw [catE,if_pos hl]
          rw [hc,he]
          go_wp2
          exact bodyPost_ret (v := .tuple #[valV 3 0 (s ++ s'), .int .i64 0]) (by simp [results,Tryz.results213,go_sem,valV,r0,r1,r2]) rfl ⟨by simp [reckV,reckE,hk,hr,hr',h,hc,he,valV],below_store3 hb _ _ _⟩
        · have hc: catV s s' = .agg #[.int .i64 0, .int .i64 0, .string ⟨#[]⟩] := by rw [catV,if_neg hl]; rfl
          have he: catE s s' = 8 := by rw [catE,if_neg hl]
          rw [hc,he]
          go_wp2
          exact bodyPost_ret (v := .tuple #[valV 0 0 ⟨#[]⟩, .int .i64 8]) (by simp [results,Tryz.results213,go_sem,valV,r0,r1,r2]) rfl ⟨by simp [reckV,reckE,hk,hr,hr',h,hc,he,valV],below_store3 hb _ _ _⟩)
     | (go_wp2
        exact bodyPost_ret (v := .tuple #[valV 0 0 ⟨#[]⟩, .int .i64 4]) (by simp [results,Tryz.results213,go_sem,valV,r0,r1,r2]) rfl ⟨by simp [reckV,reckE,hk,hr,hr',h],below_store3 hb _ _ _⟩)
  by_cases t2: (k == 2 && k' == 2) = true
  · rw [Bool.and_eq_true,beq_iff_eq,beq_iff_eq] at t2
    obtain ⟨rfl,rfl⟩ := t2
    go_wp2_with fail
    refine (number_walk op n n' hn hn' _).mono ?_
    rintro e w3 ⟨⟨x,rfl,hx,hf⟩,q,rfl⟩
    cases hv: fits (opI op n n')
    · go_wp2
      exact bodyPost_ret (v := .tuple #[valV 0 0 ⟨#[]⟩, .int .i64 7]) (by simp [results,Tryz.results213,go_sem,valV,r0,r1,r2]) rfl ⟨by simp [reckV,reckE,hk,hr,hr',hv],below_store3 (below_drewN hb q) _ _ _⟩
    · obtain rfl := hx hv
      go_wp2
      exact bodyPost_ret (v := .tuple #[valV 2 (opI op n n') ⟨#[]⟩, .int .i64 0]) (by simp [results,Tryz.results213,go_sem,valV,r0,r1,r2]) rfl ⟨by simp [reckV,reckE,hk,hr,hr',hv],below_store3 (below_drewN hb q) _ _ _⟩
  · rw [Bool.not_eq_true] at t2 t3
    have hE: reckE op k n s k' n' s' = 4 /\ reckV op k n s k' n' s' = valV 0 0 ⟨#[]⟩ := by
     have t4: (k != 2 || k' != 2) = true := by rw [bne,bne, <- Bool.not_and,t2]; rfl
     constructor
     · simp only [reckE,hk,hr,hr',z0,z0',Bool.and_assoc,t3,t4,Bool.and_false]; rfl
     · simp only [reckV,hk,hr,hr',z0,z0',Bool.and_assoc,t3,t4,Bool.and_false]; rfl
    cases c3: (k == 3)
    all_goals cases c3': (k' == 3)
    all_goals cases c2: (k == 2)
    all_goals cases c2': (k' == 2)
    all_goals first | (exfalso; rw [c2,c2'] at t2; cases t2; done) | (exfalso; rw [c3,c3'] at t3; cases t3; done) | skip
    all_goals clear t2 t3
    all_goals go_wp2
    all_goals exact bodyPost_ret (v := .tuple #[valV 0 0 ⟨#[]⟩, .int .i64 4]) (by simp [results,Tryz.results213,go_sem,valV,r0,r1,r2]) rfl ⟨by rw [hE.1,hE.2],below_store3 hb _ _ _⟩
end Go.Proofs.YteibhbnlcpejpaaGreat
