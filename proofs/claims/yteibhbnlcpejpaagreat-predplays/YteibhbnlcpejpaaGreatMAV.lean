import Derived.Test.YteibhbnlcpejpaaGreatMAH
set_option maxRecDepth 100000
set_option maxHeartbeats 4000000
namespace Go.Proofs.YteibhbnlcpejpaaGreat
open Go.RowKit
def box4 (w: World) (k n: Int) (s: ByteArray) (k' n': Int) (s': ByteArray): World := (box3 w k n s k' n' s').alloc (.cells #[.int .i64 0, .int .i64 0, .string ⟨#[]⟩] 27)
theorem boxed4 (w: World) (k n: Int) (s: ByteArray) (k' n': Int) (s': ByteArray): Boxed (box4 w k n s k' n' s') w.heap.size k n s /\ Boxed (box4 w k n s k' n' s') (w.heap.size + 1) k' n' s' /\ Boxed (box4 w k n s k' n' s') (w.heap.size + 1 + 1) 0 0 ⟨#[]⟩ /\ Boxed (box4 w k n s k' n' s') (w.heap.size + 1 + 1 + 1) 0 0 ⟨#[]⟩ := by
 obtain ⟨A,B,R⟩ := boxed3 w k n s k' n' s'
 refine ⟨A.below (below_alloc _ _),B.below (below_alloc _ _),R.below (below_alloc _ _), ?_⟩
 refine ⟨?_, ?_, ?_, ?_⟩ <;> simp [box4,box3,box2,go_sem]
theorem below_box4 (w: World) (k n: Int) (s: ByteArray) (k' n': Int) (s': ByteArray): Below w.heap.size w (box4 w k n s k' n' s') :=
 below_on (below_box3 w k n s k' n' s') (below_alloc _ _)
theorem size_cat (s t: ByteArray): (s ++ t).size = s.size + t.size := by simp
theorem rreckon_plus (op: ByteArray) (k n: Int) (s: ByteArray) (k' n': Int) (s': ByteArray) (hn: fits n = true) (hn': fits n' = true) (h: op.toList = [43]) (w: World): Calls Tryz.prog 124 #[.string op,valV k n s,valV k' n' s'] w fun e w' =>
 e = .returned (.tuple #[reckV op k n s k' n' s', .int .i64 (reckE op k n s k' n' s')]) /\ Below w.heap.size w w' := by
 go_enter Tryz.func124,Tryz.ntmps124
 have hk: knownR op = true := by simp [knownR,h]
 unfold valV
 go_wp2_with fail
 refine (rright_walk k n s _).mono ?_
 rintro e w1 ⟨rfl,hb⟩
 obtain ⟨A0,B0,R0,N0⟩ := boxed4 w k n s k' n' s'
 have A := A0.below hb
 have B := B0.below hb
 have R := R0.below hb
 have N := N0.below hb
 have F := ((free3 w k n s k' n' s').below (below_alloc _ _)).below hb
 replace hb := below_on (below_box4 w k n s k' n' s') hb
 clear A0 B0 R0 N0
 obtain ⟨_,a0,a1,a2⟩ := id A
 obtain ⟨_,b0,b1,b2⟩ := id B
 obtain ⟨_,r0,r1,r2⟩ := id R
 obtain ⟨_,n0,n1,n2⟩ := id N
 obtain ⟨_,f0,f1,f2⟩ := id F
 cases hr: rightB k n s
 · go_wp2
   exact bodyPost_ret (v := .tuple #[valV 0 0 ⟨#[]⟩, .int .i64 15]) (by simp [results,Tryz.results124,go_sem,valV,r0,r1,r2]) rfl ⟨by simp [reckV,reckE,hr],below_store3 hb _ _ _⟩
 go_wp2_with fail
 refine (rright_walk k' n' s' _).mono ?_
 rintro e w2 ⟨rfl,hb2⟩
 replace A := A.below hb2
 replace B := B.below hb2
 replace R := R.below hb2
 replace N := N.below hb2
 replace F := F.below hb2
 replace hb := below_on hb hb2
 clear hb2 a0 a1 a2 b0 b1 b2 r0 r1 r2 f0 f1 f2 n0 n1 n2
 obtain ⟨_,a0,a1,a2⟩ := id A
 obtain ⟨_,b0,b1,b2⟩ := id B
 obtain ⟨_,r0,r1,r2⟩ := id R
 obtain ⟨_,n0,n1,n2⟩ := id N
 obtain ⟨_,f0,f1,f2⟩ := id F
 clear A B R N F
 cases hr': rightB k' n' s'
 · go_wp2
   exact bodyPost_ret (v := .tuple #[valV 0 0 ⟨#[]⟩, .int .i64 15]) (by simp [results,Tryz.results124,go_sem,valV,r0,r1,r2]) rfl ⟨by simp [reckV,reckE,hr'],below_store3 hb _ _ _⟩
 by_cases z: (k == 0 || k' == 0) = true
 · have zz := z
   rw [Bool.or_eq_true] at z
   rcases z with z | z
   all_goals
    go_wp2
    all_goals exact bodyPost_ret (v := .tuple #[valV 0 0 ⟨#[]⟩, .int .i64 0]) (by simp [results,Tryz.results124,go_sem,valV,r0,r1,r2]) rfl ⟨by simp [reckV,reckE,hk,hr,hr',zz],below_store3 hb _ _ _⟩
 rw [Bool.not_eq_true,Bool.or_eq_false_iff] at z
 obtain ⟨z0,z0'⟩ := z
 by_cases t3: (k == 3 && k' == 3) = true
 · rw [Bool.and_eq_true,beq_iff_eq,beq_iff_eq] at t3
   obtain ⟨rfl,rfl⟩ := t3
   have s24 := right3 hr
   have s24' := right3 hr'
   by_cases hl: s.size + s'.size <= 24
   · have hc: catV s s' = .agg #[.int .i64 3, .int .i64 0, .string (s ++ s')] := by rw [catV,if_pos hl]; rfl
     have he: catE s s' = 0 := by rw [catE,if_pos hl]
     have hd: decide ((24: Int) < ((s ++ s').size: Int)) = false := decide_eq_false (by rw [size_cat]; omega)
     go_wp2
     exact bodyPost_ret (v := .tuple #[valV 3 0 (s ++ s'), .int .i64 0]) (by simp [results,Tryz.results124,go_sem,valV,r0,r1,r2]) rfl ⟨by simp [reckV,reckE,hk,hr,hr',h,hc,he,valV],below_store3 hb _ _ _⟩
   · have hc: catV s s' = .agg #[.int .i64 0, .int .i64 0, .string ⟨#[]⟩] := by rw [catV,if_neg hl]; rfl
     have he: catE s s' = 8 := by rw [catE,if_neg hl]
     have hd: decide ((24: Int) < ((s ++ s').size: Int)) = true := decide_eq_true (by rw [size_cat]; omega)
     go_wp2
     exact bodyPost_ret (v := .tuple #[valV 0 0 ⟨#[]⟩, .int .i64 8]) (by simp [results,Tryz.results124,go_sem,valV,r0,r1,r2]) rfl ⟨by simp [reckV,reckE,hk,hr,hr',h,hc,he,valV],below_store3 hb _ _ _⟩
 by_cases t2: (k == 2 && k' == 2) = true
 · rw [Bool.and_eq_true,beq_iff_eq,beq_iff_eq] at t2
   obtain ⟨rfl,rfl⟩ := t2
   go_wp2_with fail
   refine (plus_walk n n' hn hn' _).mono ?_
   rintro e w3 ⟨⟨x,rfl,hx,hf⟩,rfl⟩
   have ho: opI op n n' = n + n' := by simp [opI,h]
   clear hf
   cases hv: fits (n + n')
   · go_wp2
     exact bodyPost_ret (v := .tuple #[valV 0 0 ⟨#[]⟩, .int .i64 7]) (by simp [results,Tryz.results124,go_sem,valV,r0,r1,r2]) rfl ⟨by simp [reckV,reckE,hk,hr,hr',ho,hv],below_store3 hb _ _ _⟩
   · obtain rfl := hx hv
     go_wp2
     exact bodyPost_ret (v := .tuple #[valV 2 (n + n') ⟨#[]⟩, .int .i64 0]) (by simp [results,Tryz.results124,go_sem,valV,r0,r1,r2]) rfl ⟨by simp [reckV,reckE,hk,hr,hr',ho,hv],below_store3 hb _ _ _⟩
 · rw [Bool.not_eq_true] at t2 t3
   have hE: reckE op k n s k' n' s' = 4 /\ reckV op k n s k' n' s' = valV 0 0 ⟨#[]⟩ := by
    have t4: (k != 2 || k' != 2) = true := by rw [bne,bne, <- Bool.not_and,t2]; rfl
    constructor
    · simp only [reckE,hk,hr,hr',z0,z0',Bool.and_assoc,t3,t4,Bool.and_false]; rfl
    · simp only [reckV,hk,hr,hr',z0,z0',Bool.and_assoc,t3,t4,Bool.and_false]; rfl
   cases c3: (k == 3)
   all_goals cases c3': (k' == 3)
   all_goals cases c2: (k == 2)
   all_goals cases c2': (k' == 2)
   all_goals first | (exfalso; rw [c2,c2'] at t2; cases t2; done) | (exfalso; rw [c3,c3'] at t3; cases t3; done) | skip
   all_goals clear t2 t3
   all_goals go_wp2
   all_goals exact bodyPost_ret (v := .tuple #[valV 0 0 ⟨#[]⟩, .int .i64 4]) (by simp [results,Tryz.results124,go_sem,valV,r0,r1,r2]) rfl ⟨by rw [hE.1,hE.2],below_store3 hb _ _ _⟩
theorem rreckon_minus (op: ByteArray) (k n: Int) (s: ByteArray) (k' n': Int) (s': ByteArray) (hn: fits n = true) (hn': fits n' = true) (h: op.toList = [45]) (w: World): Calls Tryz.prog 124 #[.string op,valV k n s,valV k' n' s'] w fun e w' =>
 e = .returned (.tuple #[reckV op k n s k' n' s', .int .i64 (reckE op k n s k' n' s')]) /\ Below w.heap.size w w' := by
 go_enter Tryz.func124,Tryz.ntmps124
 have hk: knownR op = true := by simp [knownR,h]
 unfold valV
 go_wp2_with fail
 refine (rright_walk k n s _).mono ?_
 rintro e w1 ⟨rfl,hb⟩
 obtain ⟨A0,B0,R0,N0⟩ := boxed4 w k n s k' n' s'
 have A := A0.below hb
 have B := B0.below hb
 have R := R0.below hb
 have N := N0.below hb
 have F := ((free3 w k n s k' n' s').below (below_alloc _ _)).below hb
 replace hb := below_on (below_box4 w k n s k' n' s') hb
 clear A0 B0 R0 N0
 obtain ⟨_,a0,a1,a2⟩ := id A
 obtain ⟨_,b0,b1,b2⟩ := id B
 obtain ⟨_,r0,r1,r2⟩ := id R
 obtain ⟨_,n0,n1,n2⟩ := id N
 obtain ⟨_,f0,f1,f2⟩ := id F
 cases hr: rightB k n s
 · go_wp2
   exact bodyPost_ret (v := .tuple #[valV 0 0 ⟨#[]⟩, .int .i64 15]) (by simp [results,Tryz.results124,go_sem,valV,r0,r1,r2]) rfl ⟨by simp [reckV,reckE,hr],below_store3 hb _ _ _⟩
 go_wp2_with fail
 refine (rright_walk k' n' s' _).mono ?_
 rintro e w2 ⟨rfl,hb2⟩
 replace A := A.below hb2
 replace B := B.below hb2
 replace R := R.below hb2
 replace N := N.below hb2
 replace F := F.below hb2
 replace hb := below_on hb hb2
 clear hb2 a0 a1 a2 b0 b1 b2 r0 r1 r2 f0 f1 f2 n0 n1 n2
 obtain ⟨_,a0,a1,a2⟩ := id A
 obtain ⟨_,b0,b1,b2⟩ := id B
 obtain ⟨_,r0,r1,r2⟩ := id R
 obtain ⟨_,n0,n1,n2⟩ := id N
 obtain ⟨_,f0,f1,f2⟩ := id F
 clear A B R N F
 cases hr': rightB k' n' s'
 · go_wp2
   exact bodyPost_ret (v := .tuple #[valV 0 0 ⟨#[]⟩, .int .i64 15]) (by simp [results,Tryz.results124,go_sem,valV,r0,r1,r2]) rfl ⟨by simp [reckV,reckE,hr'],below_store3 hb _ _ _⟩
 by_cases z: (k == 0 || k' == 0) = true
 · have zz := z
   rw [Bool.or_eq_true] at z
   rcases z with z | z
   all_goals
    go_wp2
    all_goals exact bodyPost_ret (v := .tuple #[valV 0 0 ⟨#[]⟩, .int .i64 0]) (by simp [results,Tryz.results124,go_sem,valV,r0,r1,r2]) rfl ⟨by simp [reckV,reckE,hk,hr,hr',zz],below_store3 hb _ _ _⟩
 rw [Bool.not_eq_true,Bool.or_eq_false_iff] at z
 obtain ⟨z0,z0'⟩ := z
 by_cases t3: (k == 3 && k' == 3) = true
 · rw [Bool.and_eq_true,beq_iff_eq,beq_iff_eq] at t3
   obtain ⟨rfl,rfl⟩ := t3
   have s24 := right3 hr
   have s24' := right3 hr'
   clear s24 s24'
   go_wp2
   exact bodyPost_ret (v := .tuple #[valV 0 0 ⟨#[]⟩, .int .i64 4]) (by simp [results,Tryz.results124,go_sem,valV,r0,r1,r2]) rfl ⟨by simp [reckV,reckE,hk,hr,hr',h],below_store3 hb _ _ _⟩
 by_cases t2: (k == 2 && k' == 2) = true
 · rw [Bool.and_eq_true,beq_iff_eq,beq_iff_eq] at t2
   obtain ⟨rfl,rfl⟩ := t2
   go_wp2_with fail
   refine (plus_walk n n' hn hn' _).mono ?_
   rintro e w3 ⟨⟨x,rfl,hx,hf⟩,rfl⟩
   have ho: opI op n n' = n - n' := by simp [opI,h]
   clear hx hf
   go_wp2_with fail
   refine (minus_walk n n' hn hn' _).mono ?_
   rintro e w4 ⟨⟨y,rfl,hx,hf⟩,rfl⟩
   clear hf
   cases hv: fits (n - n')
   · go_wp2
     exact bodyPost_ret (v := .tuple #[valV 0 0 ⟨#[]⟩, .int .i64 7]) (by simp [results,Tryz.results124,go_sem,valV,r0,r1,r2]) rfl ⟨by simp [reckV,reckE,hk,hr,hr',ho,hv],below_store3 hb _ _ _⟩
   · obtain rfl := hx hv
     go_wp2
     exact bodyPost_ret (v := .tuple #[valV 2 (n - n') ⟨#[]⟩, .int .i64 0]) (by simp [results,Tryz.results124,go_sem,valV,r0,r1,r2]) rfl ⟨by simp [reckV,reckE,hk,hr,hr',ho,hv],below_store3 hb _ _ _⟩
 · rw [Bool.not_eq_true] at t2 t3
   have hE: reckE op k n s k' n' s' = 4 /\ reckV op k n s k' n' s' = valV 0 0 ⟨#[]⟩ := by
    have t4: (k != 2 || k' != 2) = true := by rw [bne,bne, <- Bool.not_and,t2]; rfl
    constructor
    · simp only [reckE,hk,hr,hr',z0,z0',Bool.and_assoc,t3,t4,Bool.and_false]; rfl
    · simp only [reckV,hk,hr,hr',z0,z0',Bool.and_assoc,t3,t4,Bool.and_false]; rfl
   cases c3: (k == 3)
   all_goals cases c3': (k' == 3)
   all_goals cases c2: (k == 2)
   all_goals cases c2': (k' == 2)
   all_goals first | (exfalso; rw [c2,c2'] at t2; cases t2; done) | (exfalso; rw [c3,c3'] at t3; cases t3; done) | skip
   all_goals clear t2 t3
   all_goals go_wp2
   all_goals exact bodyPost_ret (v := .tuple #[valV 0 0 ⟨#[]⟩, .int .i64 4]) (by simp [results,Tryz.results124,go_sem,valV,r0,r1,r2]) rfl ⟨by rw [hE.1,hE.2],below_store3 hb _ _ _⟩
theorem rreckon_times (op: ByteArray) (k n: Int) (s: ByteArray) (k' n': Int) (s': ByteArray) (hn: fits n = true) (hn': fits n' = true) (h: op.toList = [42]) (w: World): Calls Tryz.prog 124 #[.string op,valV k n s,valV k' n' s'] w fun e w' =>
 e = .returned (.tuple #[reckV op k n s k' n' s', .int .i64 (reckE op k n s k' n' s')]) /\ Below w.heap.size w w' := by
 go_enter Tryz.func124,Tryz.ntmps124
 have hk: knownR op = true := by simp [knownR,h]
 unfold valV
 go_wp2_with fail
 refine (rright_walk k n s _).mono ?_
 rintro e w1 ⟨rfl,hb⟩
 obtain ⟨A0,B0,R0,N0⟩ := boxed4 w k n s k' n' s'
 have A := A0.below hb
 have B := B0.below hb
 have R := R0.below hb
 have N := N0.below hb
 have F := ((free3 w k n s k' n' s').below (below_alloc _ _)).below hb
 replace hb := below_on (below_box4 w k n s k' n' s') hb
 clear A0 B0 R0 N0
 obtain ⟨_,a0,a1,a2⟩ := id A
 obtain ⟨_,b0,b1,b2⟩ := id B
 obtain ⟨_,r0,r1,r2⟩ := id R
 obtain ⟨_,n0,n1,n2⟩ := id N
 obtain ⟨_,f0,f1,f2⟩ := id F
 cases hr: rightB k n s
 · go_wp2
   exact bodyPost_ret (v := .tuple #[valV 0 0 ⟨#[]⟩, .int .i64 15]) (by simp [results,Tryz.results124,go_sem,valV,r0,r1,r2]) rfl ⟨by simp [reckV,reckE,hr],below_store3 hb _ _ _⟩
 go_wp2_with fail
 refine (rright_walk k' n' s' _).mono ?_
 rintro e w2 ⟨rfl,hb2⟩
 replace A := A.below hb2
 replace B := B.below hb2
 replace R := R.below hb2
 replace N := N.below hb2
 replace F := F.below hb2
 replace hb := below_on hb hb2
 clear hb2 a0 a1 a2 b0 b1 b2 r0 r1 r2 f0 f1 f2 n0 n1 n2
 obtain ⟨_,a0,a1,a2⟩ := id A
 obtain ⟨_,b0,b1,b2⟩ := id B
 obtain ⟨_,r0,r1,r2⟩ := id R
 obtain ⟨_,n0,n1,n2⟩ := id N
 obtain ⟨_,f0,f1,f2⟩ := id F
 clear A B R N F
 cases hr': rightB k' n' s'
 · go_wp2
   exact bodyPost_ret (v := .tuple #[valV 0 0 ⟨#[]⟩, .int .i64 15]) (by simp [results,Tryz.results124,go_sem,valV,r0,r1,r2]) rfl ⟨by simp [reckV,reckE,hr'],below_store3 hb _ _ _⟩
 by_cases z: (k == 0 || k' == 0) = true
 · have zz := z
   rw [Bool.or_eq_true] at z
   rcases z with z | z
   all_goals
    go_wp2
    all_goals exact bodyPost_ret (v := .tuple #[valV 0 0 ⟨#[]⟩, .int .i64 0]) (by simp [results,Tryz.results124,go_sem,valV,r0,r1,r2]) rfl ⟨by simp [reckV,reckE,hk,hr,hr',zz],below_store3 hb _ _ _⟩
 rw [Bool.not_eq_true,Bool.or_eq_false_iff] at z
 obtain ⟨z0,z0'⟩ := z
 by_cases t3: (k == 3 && k' == 3) = true
 · rw [Bool.and_eq_true,beq_iff_eq,beq_iff_eq] at t3
   obtain ⟨rfl,rfl⟩ := t3
   have s24 := right3 hr
   have s24' := right3 hr'
   clear s24 s24'
   go_wp2
   exact bodyPost_ret (v := .tuple #[valV 0 0 ⟨#[]⟩, .int .i64 4]) (by simp [results,Tryz.results124,go_sem,valV,r0,r1,r2]) rfl ⟨by simp [reckV,reckE,hk,hr,hr',h],below_store3 hb _ _ _⟩
 by_cases t2: (k == 2 && k' == 2) = true
 · rw [Bool.and_eq_true,beq_iff_eq,beq_iff_eq] at t2
   obtain ⟨rfl,rfl⟩ := t2
   go_wp2_with fail
   refine (plus_walk n n' hn hn' _).mono ?_
   rintro e w3 ⟨⟨x,rfl,hx,hf⟩,rfl⟩
   have ho: opI op n n' = n * n' := by simp [opI,h]
   clear hx hf
   go_wp2_with fail
   refine (times_walk n n' hn hn' _).mono ?_
   rintro e w4 ⟨⟨y,rfl,hx,hf⟩,rfl⟩
   clear hf
   cases hv: fits (n * n')
   · go_wp2
     exact bodyPost_ret (v := .tuple #[valV 0 0 ⟨#[]⟩, .int .i64 7]) (by simp [results,Tryz.results124,go_sem,valV,r0,r1,r2]) rfl ⟨by simp [reckV,reckE,hk,hr,hr',ho,hv],below_store3 hb _ _ _⟩
   · obtain rfl := hx hv
     go_wp2
     exact bodyPost_ret (v := .tuple #[valV 2 (n * n') ⟨#[]⟩, .int .i64 0]) (by simp [results,Tryz.results124,go_sem,valV,r0,r1,r2]) rfl ⟨by simp [reckV,reckE,hk,hr,hr',ho,hv],below_store3 hb _ _ _⟩
 · rw [Bool.not_eq_true] at t2 t3
   have hE: reckE op k n s k' n' s' = 4 /\ reckV op k n s k' n' s' = valV 0 0 ⟨#[]⟩ := by
    have t4: (k != 2 || k' != 2) = true := by rw [bne,bne, <- Bool.not_and,t2]; rfl
    constructor
    · simp only [reckE,hk,hr,hr',z0,z0',Bool.and_assoc,t3,t4,Bool.and_false]; rfl
    · simp only [reckV,hk,hr,hr',z0,z0',Bool.and_assoc,t3,t4,Bool.and_false]; rfl
   cases c3: (k == 3)
   all_goals cases c3': (k' == 3)
   all_goals cases c2: (k == 2)
   all_goals cases c2': (k' == 2)
   all_goals first | (exfalso; rw [c2,c2'] at t2; cases t2; done) | (exfalso; rw [c3,c3'] at t3; cases t3; done) | skip
   all_goals clear t2 t3
   all_goals go_wp2
   all_goals exact bodyPost_ret (v := .tuple #[valV 0 0 ⟨#[]⟩, .int .i64 4]) (by simp [results,Tryz.results124,go_sem,valV,r0,r1,r2]) rfl ⟨by rw [hE.1,hE.2],below_store3 hb _ _ _⟩
theorem rreckon_walk (op: ByteArray) (k n: Int) (s: ByteArray) (k' n': Int) (s': ByteArray) (hn: fits n = true) (hn': fits n' = true) (w: World): Calls Tryz.prog 124 #[.string op,valV k n s,valV k' n' s'] w fun e w' =>
 e = .returned (.tuple #[reckV op k n s k' n' s', .int .i64 (reckE op k n s k' n' s')]) /\ Below w.heap.size w w' := by
 cases hk: knownR op
 · go_enter Tryz.func124,Tryz.ntmps124
   simp only [knownR,Bool.or_eq_false_iff] at hk
   obtain ⟨⟨g1,g2⟩,g3⟩ := hk
   unfold valV
   go_wp2
   exact bodyPost_ret (v := .tuple #[valV 0 0 ⟨#[]⟩, .int .i64 15]) (by simp [results,Tryz.results124,go_sem,valV]) rfl ⟨by simp [reckV,reckE,knownR,g1,g2,g3],below_box4 w k n s k' n' s'⟩
 have hop: op.toList = [43] \/ op.toList = [45] \/ op.toList = [42] := by
  simp only [knownR,Bool.or_eq_true,beq_iff_eq] at hk
  rcases hk with (h | h) | h <;> simp [h]
 rcases hop with h | h | h
 · exact rreckon_plus op k n s k' n' s' hn hn' h w
 · exact rreckon_minus op k n s k' n' s' hn hn' h w
 · exact rreckon_times op k n s k' n' s' hn hn' h w
end Go.Proofs.YteibhbnlcpejpaaGreat
