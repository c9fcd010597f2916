import Derived.Test.YteibhbnlcpejpaaGreatMAK
import Derived.Test.YteibhbnlcpejpaaGreatMAL
set_option maxRecDepth 100000
set_option maxHeartbeats 4000000
namespace Go.Proofs.YteibhbnlcpejpaaGreat
open Go.RowKit
def box4 (w: World) (k n: Int) (s: ByteArray) (k' n': Int) (s': ByteArray): World := (box3 w k n s k' n' s').alloc (.cells #[.int .i64 0, .int .i64 0, .string ⟨#[]⟩] 27)
theorem boxed4 (w: World) (k n: Int) (s: ByteArray) (k' n': Int) (s': ByteArray): Boxed (box4 w k n s k' n' s') w.heap.size k n s /\ Boxed (box4 w k n s k' n' s') (w.heap.size + 1) k' n' s' /\ Boxed (box4 w k n s k' n' s') (w.heap.size + 1 + 1) 0 0 ⟨#[]⟩ /\ Boxed (box4 w k n s k' n' s') (w.heap.size + 1 + 1 + 1) 0 0 ⟨#[]⟩ := by
 obtain ⟨A,B,R⟩ := boxed3 w k n s k' n' s'
 refine ⟨A.below (below_alloc _ _),B.below (below_alloc _ _),R.below (below_alloc _ _), ?_⟩
 refine ⟨?_, ?_, ?_, ?_⟩ <;> simp [box4,box3,box2,go_sem]
theorem below_box4 (w: World) (k n: Int) (s: ByteArray) (k' n': Int) (s': ByteArray): Below w.heap.size w (box4 w k n s k' n' s') :=
 below_on (below_box3 w k n s k' n' s') (below_alloc _ _)
theorem size_cat (s t: ByteArray): (s ++ t).size = s.size + t.size := by simp
theorem rreckon_plus (op: ByteArray) (k n: Int) (s: ByteArray) (k' n': Int) (s': ByteArray) (hn: fits n = true) (hn': fits n' = true) (h: op.toList = [43]) (w: World): Calls Tryz.prog 124 #[.string op,valV k n s,valV k' n' s'] w fun e w' =>
 e = .returned (.tuple #[reckV op k n s k' n' s', .int .i64 (reckE op k n s k' n' s')]) /\ Below w.heap.size w w' := by
 go_enter Tryz.func124,Tryz.ntmps124
 have hk: knownR op = true := by simp [knownR,h]
 unfold valV
 go_wp2_with fail
 refine (rright_walk k n s _).mono ?_
 rintro e w1 ⟨rfl,hb⟩
 obtain ⟨A0,B0,R0,N0⟩ := boxed4 w k n s k' n' s'
 have A := A0.below hb
 have B := B0.below hb
 have R := R0.below hb
 have N := N0.below hb
 have F := ((free3 w k n s k' n' s').below (below_alloc _ _)).below hb
 replace hb := below_on (below_box4 w k n s k' n' s') hb
 clear A0 B0 R0 N0
 obtain ⟨_,a0,a1,a2⟩ := id A
 obtain ⟨_,b0,b1,b2⟩ := id B
 obtain ⟨_,r0,r1,r2⟩ := id R
 obtain ⟨_,n0,n1,n2⟩ := id N
 obtain ⟨_,f0,f1,f2⟩ := id F
 cases hr: rightB k n s
 · go_wp2
   exact bodyPost_ret (v := .tuple #[valV 0 0 ⟨#[]⟩, .int .i64 15]) (by simp [results,Tryz.results124,go_sem,valV,r0,r1,r2]) rfl ⟨by simp [reckV,reckE,hr],below_store3 hb _ _ _⟩
 go_wp2_with fail
 refine (rright_walk k' n' s' _).mono ?_
 rintro e w2 ⟨rfl,hb2⟩
 replace A := A.below hb2
 replace B := B.below hb2
 replace R := R.below hb2
 replace N := N.below hb2
 replace F := F.below hb2
 replace hb := below_on hb hb2
 clear hb2 a0 a1 a2 b0 b1 b2 r0 r1 r2 f0 f1 f2 n0 n1 n2
 obtain ⟨_,a0,a1,a2⟩ := id A
 obtain ⟨_,b0,b1,b2⟩ := id B
 obtain ⟨_,r0,r1,r2⟩ := id R
 obtain ⟨_,n0,n1,n2⟩ := id N
 obtain ⟨_,f0,f1,f2⟩ := id F
 clear A B R N F
 cases hr': rightB k' n' s'
 · go_wp2
   exact bodyPost_ret (v := .tuple #[valV 0 0 ⟨#[]⟩, .int .i64 15]) (by simp [results,Tryz.results124,go_sem,valV,r0,r1,r2]) rfl ⟨by simp [reckV,reckE,hr'],below_store3 hb _ _ _⟩
 by_cases z: (k == 0 || k' == 0) = true
 · have zz := z
   rw [Bool.or_eq_true] at z
   rcases z with z | z
   all_goals
    go_wp2
    all_goals exact bodyPost_ret (v := .tuple #[valV 0 0 ⟨#[]⟩, .int .i64 0]) (by simp [results,Tryz.results124,go_sem,valV,r0,r1,r2]) rfl ⟨by simp [reckV,reckE,hk,hr,hr',zz],below_store3 hb _ _ _⟩
 rw [Bool.not_eq_true,Bool.or_eq_false_iff] at z
 obtain ⟨z0,z0'⟩ := z
 by_cases t3: (k == 3 && k' == 3) = true
 · rw [Bool.and_eq_true,beq_iff_eq,beq_iff_eq] at t3
   obtain ⟨rfl,rfl⟩ := t3
   have s24 := right3 hr
   have s24' := right3 hr'
   by_cases hl: s.size + s'.size <= 24
   · have hc: catV s s' = .agg #[.int .i64 3, .int .i64 0, .string (s ++ s')] := by rw [catV,if_pos hl]; rfl
     have he: catE s s' = 0 := by rw [catE,if_pos hl]
     have hd: decide ((24: Int) < ((s ++ s').size: Int)) = false := decide_eq_false (by rw [size_cat]; omega)
     go_wp2
     exact bodyPost_ret (v := .tuple #[valV 3 0 (s ++ s'), .int .i64 0]) (by simp [results,Tryz.results124,go_sem,valV,r0,r1,r2]) rfl ⟨by simp [reckV,reckE,hk,hr,hr',h,hc,he,valV],below_store3 hb _ _ _⟩
   · have hc: catV s s' = .agg #[.int .i64 0, .int .i64 0, .string ⟨#[]⟩] := by rw [catV,if_neg hl]; rfl
     have he: catE s s' = 8 := by rw [catE,if_neg hl]
     have hd: decide ((24: Int) < ((s ++ s').size: Int)) = true := decide_eq_true (by rw [size_cat]; omega)
     go_wp2
     exact bodyPost_ret (v := .tuple #[valV 0 0 ⟨#[]⟩, .int .i64 8]) (by simp [results,Tryz.results124,go_sem,valV,r0,r1,r2]) rfl ⟨by simp [reckV,reckE,hk,hr,hr',h,hc,he,valV],below_store3 hb _ _ _⟩
 by_cases t2: (k == 2 && k' == 2) = true
 · rw [Bool.and_eq_true,beq_iff_eq,beq_iff_eq] at t2
   obtain ⟨rfl,rfl⟩ := t2
   go_wp2_with fail
   refine (plus_walk n n' hn hn' _).mono ?_
   rintro e w3 ⟨⟨x,rfl,hx,hf⟩,rfl⟩
   have ho: opI op n n' = n + n' := by simp [opI,h]
   clear hf
   cases hv: fits (n + n')
   · go_wp2
     exact bodyPost_ret (v := .tuple #[valV 0 0 ⟨#[]⟩, .int .i64 7]) (by simp [results,Tryz.results124,go_sem,valV,r0,r1,r2]) rfl ⟨by simp [reckV,reckE,hk,hr,hr',ho,hv],below_store3 hb _ _ _⟩
   · obtain rfl := hx hv
     go_wp2
     exact bodyPost_ret (v := .tuple #[valV 2 (n + n') ⟨#[]⟩, .int .i64 0]) (by simp [results,Tryz.results124,go_sem,valV,r0,r1,r2]) rfl ⟨by simp [reckV,reckE,hk,hr,hr',ho,hv],below_store3 hb _ _ _⟩
 · rw [Bool.not_eq_true] at t2 t3
   have hE: reckE op k n s k' n' s' = 4 /\ reckV op k n s k' n' s' = valV 0 0 ⟨#[]⟩ := by
    have t4: (k != 2 || k' != 2) = true := by rw [bne,bne, <- Bool.not_and,t2]; rfl
    constructor
    · simp only [reckE,hk,hr,hr',z0,z0',Bool.and_assoc,t3,t4,Bool.and_false]; rfl
    · simp only [reckV,hk,hr,hr',z0,z0',Bool.and_assoc,t3,t4,Bool.and_false]; rfl
   cases c3: (k == 3)
   all_goals cases c3': (k' == 3)
   all_goals cases c2: (k == 2)
   all_goals cases c2': (k' == 2)
   all_goals first | (exfalso; rw [c2,c2'] at t2; cases t2; done) | (exfalso; rw [c3,c3'] at t3; cases t3; done) | skip
   all_goals clear t2 t3
   all_goals go_wp2
   all_goals exact bodyPost_ret (v := .tuple #[valV 0 0 ⟨#[]⟩, .int .i64 4]) (by simp [results,Tryz.results124,go_sem,valV,r0,r1,r2]) rfl ⟨by rw [hE.1,hE.2],below_store3 hb _ _ _⟩
theorem rreckon_minus (op: ByteArray) (k n: Int) (s: ByteArray) (k' n': Int) (s': ByteArray) (hn: fits n = true) (hn': fits n' = true) (h: op.toList = [45]) (w: World): Calls Tryz.prog 124 #[.string op,valV k n s,valV k' n' s'] w fun e w' =>
 e = .returned (.tuple #[reckV op k n s k' n' s', .int .i64 (reckE op k n s k' n' s')]) /\ Below w.heap.size w w' := by
 go_enter Tryz.func124,Tryz.ntmps124
 have hk: knownR op = true := by simp [knownR,h]
 unfold valV
 go_wp2_with fail
 refine (rright_walk k n s _).mono ?_
 rintro e w1 ⟨rfl,hb⟩
 obtain ⟨A0,B0,R0,N0⟩ := boxed4 w k n s k' n' s'
 have A := A0.below hb
 have B := B0.below hb
 have R := R0.below hb
 have N := N0.below hb
 have F := ((free3 w k n s k' n' s').below (below_alloc _ _)).below hb
 replace hb := below_on (below_box4 w k n s k' n' s') hb
 clear A0 B0 R0 N0
 obtain ⟨_,a0,a1,a2⟩ := id A
 obtain ⟨_,b0,b1,b2⟩ := id B
 obtain ⟨_,r0,r1,r2⟩ := id R
 obtain ⟨_,n0,n1,n2⟩ := id N
 obtain ⟨_,f0,f1,f2⟩ := id F
 cases hr: rightB k n s
 · go_wp2
   exact bodyPost_ret (v := .tuple #[valV 0 0 ⟨#[]⟩, .int .i64 15]) (by simp [results,Tryz.results124,go_sem,valV,r0,r1,r2]) rfl ⟨by simp [reckV,reckE,hr],below_store3 hb _ _ _⟩
 go_wp2_with fail
 refine (rright_walk k' n' s' _).mono ?_
 rintro e w2 ⟨rfl,hb2⟩
 replace A := A.below hb2
 replace B := B.below hb2
 replace R := R.below hb2
 replace N := N.below hb2
 replace F := F.below hb2
 replace hb := below_on hb hb2
 clear hb2 a0 a1 a2 b0 b1 b2 r0 r1 r2 f0 f1 f2 n0 n1 n2
 obtain ⟨_,a0,a1,a2⟩ := id A
 obtain ⟨_,b0,b1,b2⟩ := id B
 obtain ⟨_,r0,r1,r2⟩ := id R
 obtain ⟨_,n0,n1,n2⟩ := id N
 obtain ⟨_,f0,f1,f2⟩ := id F
 clear A B R N F
 cases hr': rightB k' n' s'
 · go_wp2
   exact bodyPost_ret (v := .tuple #[valV 0 0 ⟨#[]⟩, .int .i64 15]) (by simp [results,Tryz.results124,go_sem,valV,r0,r1,r2]) rfl ⟨by simp [reckV,reckE,hr'],below_store3 hb _ _ _⟩
 by_cases z: (k == 0 || k' == 0) = true
 · have zz := z
   rw [Bool.or_eq_true] at z
   rcases z with z | z
   all_goals
    go_wp2
    all_goals exact bodyPost_ret (v := .tuple #[valV 0 0 ⟨#[]⟩, .int .i64 0]) (by simp [results,Tryz.results124,go_sem,valV,r0,r1,r2]) rfl ⟨by simp [reckV,reckE,hk,hr,hr',zz],below_store3 hb _ _ _⟩
 rw [Bool.not_eq_true,Bool.or_eq_false_iff] at z
 obtain ⟨z0,z0'⟩ := z
 by_cases t3: (k == 3 && k' == 3) = true
 · rw [Bool.and_eq_true,beq_iff_eq,beq_iff_eq] at t3
   obtain ⟨rfl,rfl⟩ := t3
   have s24 := right3 hr
   have s24' := right3 hr'
   clear s24 s24'
   go_wp2
   exact bodyPost_ret (v := .tuple #[valV 0 0 ⟨#[]⟩, .int .i64 4]) (by simp [results,Tryz.results124,go_sem,valV,r0,r1,r2]) rfl ⟨by simp [reckV,reckE,hk,hr,hr',h],below_store3 hb _ _ _⟩
 by_cases t2: (k == 2 && k' == 2) = true
 · rw [Bool.and_eq_true,beq_iff_eq,beq_iff_eq] at t2
   obtain ⟨rfl,rfl⟩ := t2
   go_wp2_with fail
   refine (plus_walk n n' hn hn' _).mono ?_
   rintro e w3 ⟨⟨x,rfl,hx,hf⟩,rfl⟩
   have ho: opI op n n' = n - n' := by simp [opI,h]
   clear hx hf
   go_wp2_with fail
   refine (minus_walk n n' hn hn' _).mono ?_
   rintro e w4 ⟨⟨y,rfl,hx,hf⟩,rfl⟩
   clear hf
   cases hv: fits (n - n')
   · go_wp2
     exact bodyPost_ret (v := .tuple #[valV 0 0 ⟨#[]⟩, .int .i64 7]) (by simp [results,Tryz.results124,go_sem,valV,r0,r1,r2]) rfl ⟨by simp [reckV,reckE,hk,hr,hr',ho,hv],below_store3 hb _ _ _⟩
   · obtain rfl := hx hv
     go_wp2
     exact bodyPost_ret (v := .tuple #[valV 2 (n - n') ⟨#[]⟩, .int .i64 0]) (by simp [results,Tryz.results124,go_sem,valV,r0,r1,r2]) rfl ⟨by simp [reckV,reckE,hk,hr,hr',ho,hv],below_store3 hb _ _ _⟩
 · rw [Bool.not_eq_true] at t2 t3
   have hE: reckE op k n s k' n' s' = 4 /\ reckV op k n s k' n' s' = valV 0 0 ⟨#[]⟩ := by
    have t4: (k != 2 || k' != 2) = true := by rw [bne,bne, <- Bool.not_and,t2]; rfl
    constructor
    · simp only [reckE,hk,hr,hr',z0,z0',Bool.and_assoc,t3,t4,Bool.and_false]; rfl
    · simp only [reckV,hk,hr,hr',z0,z0',Bool.and_assoc,t3,t4,Bool.and_false]; rfl
   cases c3: (k == 3)
   all_goals cases c3': (k' == 3)
   all_goals cases c2: (k == 2)
   all_goals cases c2': (k' == 2)
   all_goals first | (exfalso; rw [c2,c2'] at t2; cases t2; done) | (exfalso; rw [c3,c3'] at t3; cases t3; done) | skip
   all_goals clear t2 t3
   all_goals go_wp2
   all_goals exact bodyPost_ret (v := .tuple #[valV 0 0 ⟨#[]⟩, .int .i64 4]) (by simp [results,Tryz.results124,go_sem,valV,r0,r1,r2]) rfl ⟨by rw [hE.1,hE.2],below_store3 hb _ _ _⟩
theorem rreckon_times (op: ByteArray) (k n: Int) (s: ByteArray) (k' n': Int) (s': ByteArray) (hn: fits n = true) (hn': fits n' = true) (h: op.toList = [42]) (w: World): Calls Tryz.prog 124 #[.string op,valV k n s,valV k' n' s'] w fun e w' =>
 e = .returned (.tuple #[reckV op k n s k' n' s', .int .i64 (reckE op k n s k' n' s')]) /\ Below w.heap.size w w' := by
 go_enter Tryz.func124,Tryz.ntmps124
 have hk: knownR op = true := by simp [knownR,h]
 unfold valV
 go_wp2_with fail
 refine (rright_walk k n s _).mono ?_
 rintro e w1 ⟨rfl,hb⟩
 obtain ⟨A0,B0,R0,N0⟩ := boxed4 w k n s k' n' s'
 have A := A0.below hb
 have B := B0.below hb
 have R := R0.below hb
 have N := N0.below hb
 have F := ((free3 w k n s k' n' s').below (below_alloc _ _)).below hb
 replace hb := below_on (below_box4 w k n s k' n' s') hb
 clear A0 B0 R0 N0
 obtain ⟨_,a0,a1,a2⟩ := id A
 obtain ⟨_,b0,b1,b2⟩ := id B
 obtain ⟨_,r0,r1,r2⟩ := id R
 obtain ⟨_,n0,n1,n2⟩ := id N
 obtain ⟨_,f0,f1,f2⟩ := id F
 cases hr: rightB k n s
 · go_wp2
   exact bodyPost_ret (v := .tuple #[valV 0 0 ⟨#[]⟩, .int .i64 15]) (by simp [results,Tryz.results124,go_sem,valV,r0,r1,r2]) rfl ⟨by simp [reckV,reckE,hr],below_store3 hb _ _ _⟩
 go_wp2_with fail
 refine (rright_walk k' n' s' _).mono ?_
 rintro e w2 ⟨rfl,hb2⟩
 replace A := A.below hb2
 replace B := B.below hb2
 replace R := R.below hb2
 replace N := N.below hb2
 replace F := F.below hb2
 replace hb := below_on hb hb2
 clear hb2 a0 a1 a2 b0 b1 b2 r0 r1 r2 f0 f1 f2 n0 n1 n2
 obtain ⟨_,a0,a1,a2⟩ := id A
 obtain ⟨_,b0,b1,b2⟩ := id B
 obtain ⟨_,r0,r1,r2⟩ := id R
 obtain ⟨_,n0,n1,n2⟩ := id N
 obtain ⟨_,f0,f1,f2⟩ := id F
 clear A B R N F
 cases hr': rightB k' n' s'
 · go_wp2
   exact bodyPost_ret (v := .tuple #[valV 0 0 ⟨#[]⟩, .int .i64 15]) (by simp [results,Tryz.results124,go_sem,valV,r0,r1,r2]) rfl ⟨by simp [reckV,reckE,hr'],below_store3 hb _ _ _⟩
 by_cases z: (k == 0 || k' == 0) = true
 · have zz := z
   rw [Bool.or_eq_true] at z
   rcases z with z | z
   all_goals
    go_wp2
    all_goals exact bodyPost_ret (v := .tuple #[valV 0 0 ⟨#[]⟩, .int .i64 0]) (by simp [results,Tryz.results124,go_sem,valV,r0,r1,r2]) rfl ⟨by simp [reckV,reckE,hk,hr,hr',zz],below_store3 hb _ _ _⟩
 rw [Bool.not_eq_true,Bool.or_eq_false_iff] at z
 obtain ⟨z0,z0'⟩ := z
 by_cases t3: (k == 3 && k' == 3) = true
 · rw [Bool.and_eq_true,beq_iff_eq,beq_iff_eq] at t3
   obtain ⟨rfl,rfl⟩ := t3
   have s24 := right3 hr
   have s24' := right3 hr'
   clear s24 s24'
   go_wp2
   exact bodyPost_ret (v := .tuple #[valV 0 0 ⟨#[]⟩, .int .i64 4]) (by simp [results,Tryz.results124,go_sem,valV,r0,r1,r2]) rfl ⟨by simp [reckV,reckE,hk,hr,hr',h],below_store3 hb _ _ _⟩
 by_cases t2: (k == 2 && k' == 2) = true
 · rw [Bool.and_eq_true,beq_iff_eq,beq_iff_eq] at t2
   obtain ⟨rfl,rfl⟩ := t2
   go_wp2_with fail
   refine (plus_walk n n' hn hn' _).mono ?_
   rintro e w3 ⟨⟨x,rfl,hx,hf⟩,rfl⟩
   have ho: opI op n n' = n * n' := by simp [opI,h]
   clear hx hf
   go_wp2_with fail
   refine (times_walk n n' hn hn' _).mono ?_
   rintro e w4 ⟨⟨y,rfl,hx,hf⟩,rfl⟩
   clear hf
   cases hv: fits (n * n')
   · go_wp2
     exact bodyPost_ret (v := .tuple #[valV 0 0 ⟨#[]⟩, .int .i64 7]) (by simp [results,Tryz.results124,go_sem,valV,r0,r1,r2]) rfl ⟨by simp [reckV,reckE,hk,hr,hr',ho,hv],below_store3 hb _ _ _⟩
   · obtain rfl := hx hv
     go_wp2
     exact bodyPost_ret (v := .tuple #[valV 2 (n * n') ⟨#[]⟩, .int .i64 0]) (by simp [results,Tryz.results124,go_sem,valV,r0,r1,r2]) rfl ⟨by simp [reckV,reckE,hk,hr,hr',ho,hv],below_store3 hb _ _ _⟩
 · rw [Bool.not_eq_true] at t2 t3
   have hE: reckE op k n s k' n' s' = 4 /\ reckV op k n s k' n' s' = valV 0 0 ⟨#[]⟩ := by
    have t4: (k != 2 || k' != 2) = true := by rw [bne,bne, <- Bool.not_and,t2]; rfl
    constructor
    · simp only [reckE,hk,hr,hr',z0,z0',Bool.and_assoc,t3,t4,Bool.and_false]; rfl
    · simp only [reckV,hk,hr,hr',z0,z0',Bool.and_assoc,t3,t4,Bool.and_false]; rfl
   cases c3: (k == 3)
   all_goals cases c3': (k' == 3)
   all_goals cases c2: (k == 2)
   all_goals cases c2': (k' == 2)
   all_goals first | (exfalso; rw [c2,c2'] at t2; cases t2; done) | (exfalso; rw [c3,c3'] at t3; cases t3; done) | skip
   all_goals clear t2 t3
   all_goals go_wp2
   all_goals exact bodyPost_ret (v := .tuple #[valV 0 0 ⟨#[]⟩, .int .i64 4]) (by simp [results,Tryz.results124,go_sem,valV,r0,r1,r2]) rfl ⟨by rw [hE.1,hE.2],below_store3 hb _ _ _⟩
theorem rreckon_walk (op: ByteArray) (k n: Int) (s: ByteArray) (k' n': Int) (s': ByteArray) (hn: fits n = true) (hn': fits n' = true) (w: World): Calls Tryz.prog 124 #[.string op,valV k n s,valV k' n' s'] w fun e w' =>
 e = .returned (.tuple #[reckV op k n s k' n' s', .int .i64 (reckE op k n s k' n' s')]) /\ Below w.heap.size w w' := by
 cases hk: knownR op
 · go_enter Tryz.func124,Tryz.ntmps124
   simp only [knownR,Bool.or_eq_false_iff] at hk
   obtain ⟨⟨g1,g2⟩,g3⟩ := hk
   unfold valV
   go_wp2
   exact bodyPost_ret (v := .tuple #[valV 0 0 ⟨#[]⟩, .int .i64 15]) (by simp [results,Tryz.results124,go_sem,valV]) rfl ⟨by simp [reckV,reckE,knownR,g1,g2,g3],below_box4 w k n s k' n' s'⟩
 have hop: op.toList = [43] \/ op.toList = [45] \/ op.toList = [42] := by
  simp only [knownR,Bool.or_eq_true,beq_iff_eq] at hk
  rcases hk with (h | h) | h <;> simp [h]
 rcases hop with h | h | h
 · exact rreckon_plus op k n s k' n' s' hn hn' h w
 · exact rreckon_minus op k n s k' n' s' hn hn' h w
 · exact rreckon_times op k n s k' n' s' hn hn' h w
theorem tNot_two (n: Int): tNot (tNot n) = if n == 0 then 0 else if n == 1 then 1 else 2 := by
 unfold tNot
 by_cases h: n = 0
 · subst h; rfl
 by_cases h1: n = 1
 · subst h1; rfl
 simp [h,h1]
theorem ret2_int {a b c d: Int} (h: a = b) (h1: c = d): Ending.returned (.tuple #[.int .i64 a, .int .i64 c]) = .returned (.tuple #[.int .i64 b, .int .i64 d]) := by rw [h,h1]
theorem truth_no {k n: Int} (h0: (k == 0) = false) (h1: (k == 1) = false): truthT k n = 0 /\ truthE k n = 4 := by
 unfold truthT truthE
 rw [h0,h1]; simp
theorem truth_yes {k n: Int} (h0: (k == 0) = false) (h1: (k == 1) = true): truthT k n = tNot (tNot n) /\ truthE k n = 0 := by
 unfold truthT truthE
 rw [h0,h1,tNot_two]; simp
theorem rtruth_walk (k n: Int) (s: ByteArray) (w: World): Calls Tryz.prog 89 #[valV k n s] w fun e w' =>
 e = .returned (.tuple #[.int .i64 (truthT k n), .int .i64 (truthE k n)]) /\ Below w.heap.size w w' := by
 have HN := Rw.dh (fun a W => rnot_walk a W)
 cases h0: (k == 0)
 · cases h1: (k == 1)
   · have HT := Rw.dh (truth_no (n := n) h0 h1)
     unfold valV
     go_enter Tryz.func89,Tryz.ntmps89
     go_wp2
     go_ret2
     exact ⟨ret2_int HT.out.1.symm HT.out.2.symm,Rw.below_alloc _ _⟩
   · have HT := Rw.dh (truth_yes (n := n) h0 h1)
     unfold valV
     go_enter Tryz.func89,Tryz.ntmps89
     go_wp2_with (go_at_call 126; refine (HN.out _ _).mono ?_; rintro e w' ⟨rfl,rfl⟩)
     go_ret2
     exact ⟨ret2_int HT.out.1.symm HT.out.2.symm,Rw.below_alloc _ _⟩
 · obtain rfl: k = 0 := by simpa using h0
   unfold valV
   go_enter Tryz.func89,Tryz.ntmps89
   go_wp2
   go_ret2
   exact ⟨rfl,Rw.below_alloc _ _⟩
theorem rof_walk (t: Int) (h: t = 0 \/ t = 1 \/ t = 2) (w: World): Calls Tryz.prog 125 #[.int .i64 t] w fun e w' => e = .returned (vvV (ofVv t)) /\ Below w.heap.size w w' := by
 rcases h with rfl | rfl | rfl
 · go_enter Tryz.func125,Tryz.ntmps125
   go_wp2
   exact bodyPost_ret (v := vvV (ofVv 0)) (by simp [results,Tryz.results125,go_sem,vvV,ofVv,valV]) rfl ⟨rfl,Rw.below_alloc _ _⟩
 · go_enter Tryz.func125,Tryz.ntmps125
   go_wp2
   exact bodyPost_ret (v := vvV (ofVv 1)) (by simp [results,Tryz.results125,go_sem,vvV,ofVv,valV]) rfl ⟨rfl,Rw.below_alloc _ _⟩
 · go_enter Tryz.func125,Tryz.ntmps125
   go_wp2
   exact bodyPost_ret (v := vvV (ofVv 2)) (by simp [results,Tryz.results125,go_sem,vvV,ofVv,vz,valV]) rfl ⟨rfl,Rw.below_alloc _ _⟩
abbrev RvP (r: VE) (w: World): Ending -> World -> Prop := fun e w' => e = .returned (.tuple #[vvV r.1, .int .i64 r.2]) /\ Below w.heap.size w w'
structure Rbx (w W: World) (xo: ByteArray) (xk xn: Int) (xs: ByteArray) (xv xc: Int) (xa: Option Addr) (k xp: Nat): Prop where
 bel: Below w.heap.size w W
 n: W.heap[w.heap.size]? = some (.cells #[.string xo, .int .i64 xk, .int .i64 xn, .string xs, .int .i64 xv, .int .i64 xc, .slice xa k xp] 56 (0,0))
 r: W.heap[w.heap.size + 1]? = some (.cells #[.int .i64 0, .int .i64 0, .string ⟨#[]⟩] 27 (0,0))
 z: W.heap[w.heap.size + 1 + 1]? = some (.cells #[.int .i64 0, .int .i64 0, .string ⟨#[]⟩] 27 (0,0))
section
variable {w W: World} {n: Nat} {ra: Option Addr} {rs: List RowL} {m rc: Nat} {xo: ByteArray} {xk xn: Int} {xs: ByteArray} {xv xc: Int} {xa: Option Addr} {k xp: Nat} {l: List NL}
theorem Rbx.new (nq: Nat): Rbx w ((((w.alloc (.cells #[.string xo, .int .i64 xk, .int .i64 xn, .string xs, .int .i64 xv, .int .i64 xc, .slice xa k xp] 56)).alloc (.cells #[.int .i64 0, .int .i64 0, .string ⟨#[]⟩] 27)).alloc (.cells #[.int .i64 0, .int .i64 0, .string ⟨#[]⟩] 27)).drewN nq) xo xk xn xs xv xc xa k xp :=
 ⟨below_drewN (below_three w _ _ _) nq,
  ((Below.heap_alloc _ _ _ (by simp; omega)).trans (Below.heap_alloc _ _ _ (by simp))).trans (Rw.heap_new w _),
  (Below.heap_alloc _ _ _ (by simp)).trans (heap_two w _ _),heap_three w _ _ _⟩
theorem Rbx.on {w1: World} (h: Rbx w W xo xk xn xs xv xc xa k xp) (hb: Below W.heap.size W w1): Rbx w w1 xo xk xn xs xv xc xa k xp :=
 ⟨below_on h.bel hb,(hb.block _ (Array.getElem?_eq_some_iff.1 h.n).1).trans h.n,(hb.block _ (Array.getElem?_eq_some_iff.1 h.r).1).trans h.r,(hb.block _ (Array.getElem?_eq_some_iff.1 h.z).1).trans h.z⟩
theorem Rbx.cn (h: Rbx w W xo xk xn xs xv xc xa k xp): W.cell? ⟨w.heap.size,0,none⟩ = some (.string xo) /\ W.cell? ⟨w.heap.size,1,none⟩ = some (.int .i64 xk) /\ W.cell? ⟨w.heap.size,2,none⟩ = some (.int .i64 xn) /\ W.cell? ⟨w.heap.size,3,none⟩ = some (.string xs) /\ W.cell? ⟨w.heap.size,4,none⟩ = some (.int .i64 xv) /\ W.cell? ⟨w.heap.size,5,none⟩ = some (.int .i64 xc) /\ W.cell? ⟨w.heap.size,6,none⟩ = some (.slice xa k xp) := by
 refine ⟨?_, ?_, ?_, ?_, ?_, ?_, ?_⟩ <;> (rw [cell_of_row _ _ _ _ _ _ h.n]; rfl)
theorem cells3 {W: World} {p: Nat} {a b c: Value} (h: W.heap[p]? = some (.cells #[a,b,c] 27 (0,0))): W.cell? ⟨p,0,none⟩ = some a /\ W.cell? ⟨p,1,none⟩ = some b /\ W.cell? ⟨p,2,none⟩ = some c /\ W.frozen? ⟨p,0,none⟩ = false /\ W.frozen? ⟨p,1,none⟩ = false /\ W.frozen? ⟨p,2,none⟩ = false :=
 ⟨by rw [cell_of_row _ _ _ _ _ _ h]; rfl,by rw [cell_of_row _ _ _ _ _ _ h]; rfl,by rw [cell_of_row _ _ _ _ _ _ h]; rfl,frozen_of_row _ _ _ _ _ h,frozen_of_row _ _ _ _ _ h,frozen_of_row _ _ _ _ _ h⟩
theorem reval_value (hl: l = []) (ho: xo.toList = nVALUE) :
 Calls Tryz.prog 88 #[nV (.mk xo xk xn xs xv xc xa xp l), .slice ra rs.length rc] w (RvP (⟨xk,xn,xs⟩,0) w) := by
 have k1: (xo.toList == [118,97,108,117,101]) = true := by rw [ho]; rfl
 subst hl
 unfold nV
 dsimp only [NL.op,NL.vk,NL.vn,NL.vs,NL.var,NL.col,NL.a,NL.c,NL.kids,List.length_nil]
 clear ho
 go_enter Tryz.func88,Tryz.ntmps88
 go_wp2_with fail
 exact bodyPost_ret (v := .tuple #[.agg #[.int .i64 xk, .int .i64 xn, .string xs], .int .i64 0]) (by simp [results,Tryz.results88,go_sem]) rfl ⟨rfl,below_three w _ _ _⟩
end
section
variable {w W: World} {n: Nat} {ra: Option Addr} {rs: List RowL} {m rc: Nat} {xo: ByteArray} {xk xn: Int} {xs: ByteArray} {xv xc: Int} {xa: Option Addr} {k xp: Nat} {l: List NL}
theorem Rbx.new0: Rbx w (((w.alloc (.cells #[.string xo, .int .i64 xk, .int .i64 xn, .string xs, .int .i64 xv, .int .i64 xc, .slice xa k xp] 56)).alloc (.cells #[.int .i64 0, .int .i64 0, .string ⟨#[]⟩] 27)).alloc (.cells #[.int .i64 0, .int .i64 0, .string ⟨#[]⟩] 27)) xo xk xn xs xv xc xa k xp :=
 ⟨below_three w _ _ _,
  ((Below.heap_alloc _ _ _ (by simp; omega)).trans (Below.heap_alloc _ _ _ (by simp))).trans (Rw.heap_new w _),
  (Below.heap_alloc _ _ _ (by simp)).trans (heap_two w _ _),heap_three w _ _ _⟩
theorem Rbx.drewN (h: Rbx w W xo xk xn xs xv xc xa k xp) (nq: Nat): Rbx w (W.drewN nq) xo xk xn xs xv xc xa k xp := h.on (below_drewN (Below.refl _ _) nq)
theorem reval_col_clo {b o: Nat} {r: RowL} (hv0: 0 <= xv) (hv1: xv < (rs.length: Int)) (hb: b < w.heap.size) (c0: w.cell? ⟨b,o + xv.toNat,none⟩ = some (.slice r.a r.l.length r.c)) (h2: xc < 0) (hl: l = []) (ho: xo.toList = nCOLUMN) :
 Calls Tryz.prog 88 #[nV (.mk xo xk xn xs xv xc xa xp l), .slice (some ⟨b,o,none⟩) rs.length rc] w (RvP (vz,15) w) := by
 have k1: (xo.toList == [118,97,108,117,101]) = false := by rw [ho]; rfl
 have k2: (xo.toList == [99,111,108,117,109,110]) = true := by rw [ho]; rfl
 subst hl
 unfold nV
 dsimp only [NL.op,NL.vk,NL.vn,NL.vs,NL.var,NL.col,NL.a,NL.c,NL.kids,List.length_nil]
 clear ho
 have g0: decide (xv < 0) = false := decide_eq_false (by omega)
 have g1: decide ((rs.length: Int) <= xv) = false := decide_eq_false (by omega)
 have g2: decide (xv ≥ (rs.length: Int)) = false := decide_eq_false (by omega)
 have g3: decide (xc < 0) = true := decide_eq_true (by omega)
 generalize rs.length = N at *
 generalize r.l.length = M at *
 go_enter Tryz.func88,Tryz.ntmps88
 go_wp2_with fail
 refine Rw.to_letter (F := fun W => Rbx w W xo xk xn xs xv xc xa 0 xp) Rbx.new0 ?_
 intro W hE
 have HE := Rw.dh hE
 obtain ⟨n0,n1,n2,n3,n4,n5,n6⟩ := hE.cn
 have e0: W.cell? ⟨b,o + xv.toNat,none⟩ = some (.slice r.a M r.c) := by rw [hE.bel.cell hb]; assumption
 clear hE
 go_quiet (fail)
 rename_i nq
 refine Rw.to_letter (F := fun W => Rbx w W xo xk xn xs xv xc xa 0 xp) (HE.out.drewN _) ?_
 clear HE
 intro V hE
 skip
 have HE := Rw.dh hE
 obtain ⟨m0,m1,m2,m3,m4,m5,m6⟩ := hE.cn
 obtain ⟨r0,r1,r2,r3,r4,r5⟩ := cells3 hE.r
 obtain ⟨z0,z1,z2,z3,z4,z5⟩ := cells3 hE.z
 clear hE
 go_wp2
 exact bodyPost_ret (v := .tuple #[.agg #[.int .i64 0, .int .i64 0, .string ⟨#[]⟩], .int .i64 15]) (by simp [results,Tryz.results88,go_sem,r0,r1,r2]) rfl ⟨rfl,below_set3 (by omega) HE.out.bel _ _ _⟩
theorem reval_col_chi {b o: Nat} {r: RowL} (hv0: 0 <= xv) (hv1: xv < (rs.length: Int)) (hb: b < w.heap.size) (c0: w.cell? ⟨b,o + xv.toNat,none⟩ = some (.slice r.a r.l.length r.c)) (h2: 0 <= xc) (h3: (r.l.length: Int) <= xc) (hl: l = []) (ho: xo.toList = nCOLUMN) :
 Calls Tryz.prog 88 #[nV (.mk xo xk xn xs xv xc xa xp l), .slice (some ⟨b,o,none⟩) rs.length rc] w (RvP (vz,15) w) := by
 have k1: (xo.toList == [118,97,108,117,101]) = false := by rw [ho]; rfl
 have k2: (xo.toList == [99,111,108,117,109,110]) = true := by rw [ho]; rfl
 subst hl
 unfold nV
 dsimp only [NL.op,NL.vk,NL.vn,NL.vs,NL.var,NL.col,NL.a,NL.c,NL.kids,List.length_nil]
 clear ho
 have g0: decide (xv < 0) = false := decide_eq_false (by omega)
 have g1: decide ((rs.length: Int) <= xv) = false := decide_eq_false (by omega)
 have g2: decide (xv ≥ (rs.length: Int)) = false := decide_eq_false (by omega)
 have g3: decide (xc < 0) = false := decide_eq_false (by omega)
 have g4: decide ((r.l.length: Int) <= xc) = true := decide_eq_true (by omega)
 have g5: decide (xc ≥ (r.l.length: Int)) = true := decide_eq_true (by omega)
 generalize rs.length = N at *
 generalize r.l.length = M at *
 go_enter Tryz.func88,Tryz.ntmps88
 go_wp2_with fail
 refine Rw.to_letter (F := fun W => Rbx w W xo xk xn xs xv xc xa 0 xp) Rbx.new0 ?_
 intro W hE
 have HE := Rw.dh hE
 obtain ⟨n0,n1,n2,n3,n4,n5,n6⟩ := hE.cn
 have e0: W.cell? ⟨b,o + xv.toNat,none⟩ = some (.slice r.a M r.c) := by rw [hE.bel.cell hb]; assumption
 clear hE
 go_quiet (fail)
 rename_i nq
 refine Rw.to_letter (F := fun W => Rbx w W xo xk xn xs xv xc xa 0 xp) (HE.out.drewN _) ?_
 clear HE
 intro V hE
 skip
 have HE := Rw.dh hE
 obtain ⟨m0,m1,m2,m3,m4,m5,m6⟩ := hE.cn
 obtain ⟨r0,r1,r2,r3,r4,r5⟩ := cells3 hE.r
 obtain ⟨z0,z1,z2,z3,z4,z5⟩ := cells3 hE.z
 clear hE
 go_wp2
 exact bodyPost_ret (v := .tuple #[.agg #[.int .i64 0, .int .i64 0, .string ⟨#[]⟩], .int .i64 15]) (by simp [results,Tryz.results88,go_sem,r0,r1,r2]) rfl ⟨rfl,below_set3 (by omega) HE.out.bel _ _ _⟩
end
section
variable {w W: World} {n: Nat} {ra: Option Addr} {rs: List RowL} {m rc: Nat} {xo: ByteArray} {xk xn: Int} {xs: ByteArray} {xv xc: Int} {xa: Option Addr} {k xp: Nat} {l: List NL}
theorem reval_col_at {b o b' o': Nat} {r: RowL} {u: Vv} (hv0: 0 <= xv) (hv1: xv < (rs.length: Int)) (hb: b < w.heap.size) (c0: w.cell? ⟨b,o + xv.toNat,none⟩ = some (.slice (some ⟨b',o',none⟩) r.l.length r.c)) (h2: 0 <= xc) (h3: xc < (r.l.length: Int)) (hb': b' < w.heap.size) (d0: w.cell? ⟨b',o' + xc.toNat * 3,none⟩ = some (.int .i64 u.k)) (d1: w.cell? ⟨b',o' + xc.toNat * 3 + 1,none⟩ = some (.int .i64 u.n)) (d2: w.cell? ⟨b',o' + xc.toNat * 3 + 2,none⟩ = some (.string u.s)) (hl: l = []) (ho: xo.toList = nCOLUMN) :
 Calls Tryz.prog 88 #[nV (.mk xo xk xn xs xv xc xa xp l), .slice (some ⟨b,o,none⟩) rs.length rc] w (RvP (u,0) w) := by
 have k1: (xo.toList == [118,97,108,117,101]) = false := by rw [ho]; rfl
 have k2: (xo.toList == [99,111,108,117,109,110]) = true := by rw [ho]; rfl
 subst hl
 unfold nV
 dsimp only [NL.op,NL.vk,NL.vn,NL.vs,NL.var,NL.col,NL.a,NL.c,NL.kids,List.length_nil]
 clear ho
 have g0: decide (xv < 0) = false := decide_eq_false (by omega)
 have g1: decide ((rs.length: Int) <= xv) = false := decide_eq_false (by omega)
 have g2: decide (xv ≥ (rs.length: Int)) = false := decide_eq_false (by omega)
 have g3: decide (xc < 0) = false := decide_eq_false (by omega)
 have g4: decide ((r.l.length: Int) <= xc) = false := decide_eq_false (by omega)
 have g5: decide (xc ≥ (r.l.length: Int)) = false := decide_eq_false (by omega)
 generalize rs.length = N at *
 generalize r.l.length = M at *
 go_enter Tryz.func88,Tryz.ntmps88
 go_wp2_with fail
 refine Rw.to_letter (F := fun W => Rbx w W xo xk xn xs xv xc xa 0 xp) Rbx.new0 ?_
 intro W hE
 have HE := Rw.dh hE
 obtain ⟨n0,n1,n2,n3,n4,n5,n6⟩ := hE.cn
 have e0: W.cell? ⟨b,o + xv.toNat,none⟩ = some (.slice (some ⟨b',o',none⟩) M r.c) := by rw [hE.bel.cell hb]; assumption
 have d0': W.cell? ⟨b',o' + xc.toNat * 3,none⟩ = some (.int .i64 u.k) := by rw [hE.bel.cell hb']; assumption
 have d1': W.cell? ⟨b',o' + xc.toNat * 3 + 1,none⟩ = some (.int .i64 u.n) := by rw [hE.bel.cell hb']; assumption
 have d2': W.cell? ⟨b',o' + xc.toNat * 3 + 2,none⟩ = some (.string u.s) := by rw [hE.bel.cell hb']; assumption
 clear hE
 go_quiet (fail)
 rename_i nq
 refine Rw.to_letter (F := fun W => Rbx w W xo xk xn xs xv xc xa 0 xp /\ W.cell? ⟨b,o + xv.toNat,none⟩ = some (.slice (some ⟨b',o',none⟩) M r.c) /\ W.cell? ⟨b',o' + xc.toNat * 3,none⟩ = some (.int .i64 u.k) /\ W.cell? ⟨b',o' + xc.toNat * 3 + 1,none⟩ = some (.int .i64 u.n) /\ W.cell? ⟨b',o' + xc.toNat * 3 + 2,none⟩ = some (.string u.s)) ⟨HE.out.drewN _,by simpa using e0,by simpa using d0',by simpa using d1',by simpa using d2'⟩ ?_
 clear HE
 intro V hE
 obtain ⟨hE,f0,f1,f2,f3⟩ := hE
 have HE := Rw.dh hE
 obtain ⟨m0,m1,m2,m3,m4,m5,m6⟩ := hE.cn
 obtain ⟨r0,r1,r2,r3,r4,r5⟩ := cells3 hE.r
 clear hE
 go_wp2_with fail
 go_region
 refine Rw.to_letter (F := fun U => Below w.heap.size w U /\ U.heap[w.heap.size + 1]? = some (.cells #[.int .i64 u.k, .int .i64 u.n, .string u.s] 27 (0,0))) ⟨(below_set3 (p := w.heap.size + 1) (by omega) HE.out.bel _ _ _).drew,heap_setCell_same _ _ _ _ _ _ (heap_setCell_same _ _ _ _ _ _ (heap_setCell_same _ _ _ _ _ _ HE.out.r))⟩ ?_
 clear HE
 rintro U ⟨hU,hE⟩
 have HU := Rw.dh hU
 obtain ⟨s0,s1,s2,s3,s4,s5⟩ := cells3 hE
 clear hE hU
 go_wp2
 exact bodyPost_ret (v := .tuple #[vvV u, .int .i64 0]) (by simp [results,Tryz.results88,go_sem,vvV,valV,s0,s1,s2]) rfl ⟨rfl,HU.out⟩
end
end Go.Proofs.YteibhbnlcpejpaaGreat
