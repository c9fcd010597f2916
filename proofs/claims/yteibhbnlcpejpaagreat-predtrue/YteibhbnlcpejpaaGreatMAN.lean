import Derived.Test.YteibhbnlcpejpaaGreatMAM
set_option maxRecDepth 100000
set_option maxHeartbeats 4000000
namespace Go.Proofs.YteibhbnlcpejpaaGreat
open Go.RowKit
section
variable {w W: World} {n: Nat} {ra: Option Addr} {rs: List RowL} {m rc: Nat} {xo: ByteArray} {xk xn: Int} {xs: ByteArray} {xv xc: Int} {xa: Option Addr} {k xp: Nat} {l: List NL}
theorem kidsN_cases (s: ByteArray): s.toList = nVALUE \/ s.toList = nCOLUMN \/ s.toList = nNEG \/ s.toList = nNOT \/ s.toList = nNULL \/ isTwoN s = true \/ (kidsN s = -1 /\ (s.toList == nVALUE) = false /\ (s.toList == nCOLUMN) = false /\ (s.toList == nNEG) = false /\ (s.toList == nNOT) = false /\ (s.toList == nNULL) = false /\ isTwoN s = false) := by
 by_cases h1: s.toList = nVALUE
 · exact Or.inl h1
 by_cases h2: s.toList = nCOLUMN
 · exact Or.inr (Or.inl h2)
 by_cases h3: s.toList = nNEG
 · exact Or.inr (Or.inr (Or.inl h3))
 by_cases h4: s.toList = nNOT
 · exact Or.inr (Or.inr (Or.inr (Or.inl h4)))
 by_cases h5: s.toList = nNULL
 · exact Or.inr (Or.inr (Or.inr (Or.inr (Or.inl h5))))
 cases h6: isTwoN s
 · refine Or.inr (Or.inr (Or.inr (Or.inr (Or.inr (Or.inr ⟨?_,beq_eq_false_iff_ne.2 h1,beq_eq_false_iff_ne.2 h2,beq_eq_false_iff_ne.2 h3,beq_eq_false_iff_ne.2 h4,beq_eq_false_iff_ne.2 h5,rfl⟩)))))
   unfold kidsN
   unfold isTwoN at h6
   rw [beq_eq_false_iff_ne.2 h1,beq_eq_false_iff_ne.2 h2,h6]
   have h7: nops1.contains s.toList = false := by
    simp only [nops1,List.contains_cons,List.contains_nil,beq_eq_false_iff_ne.2 h3,beq_eq_false_iff_ne.2 h4,beq_eq_false_iff_ne.2 h5,Bool.or_false]
   rw [h7]; rfl
 · exact Or.inr (Or.inr (Or.inr (Or.inr (Or.inr (Or.inl rfl)))))
theorem two_facts {s: ByteArray} (h: isTwoN s = true): kidsN s = 2 /\ (s.toList == nVALUE) = false /\ (s.toList == nCOLUMN) = false /\ (s.toList == nNEG) = false /\ (s.toList == nNOT) = false /\ (s.toList == nNULL) = false := by
 unfold isTwoN at h
 unfold kidsN
 have hm: s.toList ∈ nops2 := by simpa using h
 simp only [nops2,List.mem_cons,List.not_mem_nil,or_false] at hm
 rcases hm with e | e | e | e | e | e | e | e | e | e | e <;> rw [e] <;> exact ⟨by decide,by decide,by decide,by decide,by decide,by decide⟩
theorem len_ne {L: Nat} {K: Int} (h: ((L: Int) == K) = false) {c: Int} (hc: K = c): ((L: Int) != c) = true := by subst hc; simpa [bne] using h
theorem reval_bad (h: ((l.length: Int) == kidsN xo) = false) :
 Calls Tryz.prog 88 #[nV (.mk xo xk xn xs xv xc xa xp l), .slice ra rs.length rc] w (RvP (vz,15) w) := by
 have HT := Rw.dh (fun W => ntwo_walk xo W)
 unfold nV
 dsimp only [NL.op,NL.vk,NL.vn,NL.vs,NL.var,NL.col,NL.a,NL.c,NL.kids]
 generalize l.length = L at *
 generalize rs.length = N at *
 have fin: ∀ P: Prop,
  ((xo.toList == [118,97,108,117,101]) = true -> ((L: Int) == 0) = false -> (xo.toList == [99,111,108,117,109,110]) = false -> (xo.toList == [110,101,103]) = false -> (xo.toList == [110,111,116]) = false -> (xo.toList == [110,117,108,108]) = false -> isTwoN xo = false -> P) ->
  ((xo.toList == [118,97,108,117,101]) = false -> ((L: Int) == 0) = false -> (xo.toList == [99,111,108,117,109,110]) = true -> (xo.toList == [110,101,103]) = false -> (xo.toList == [110,111,116]) = false -> (xo.toList == [110,117,108,108]) = false -> isTwoN xo = false -> P) ->
  ((xo.toList == [118,97,108,117,101]) = false -> ((L: Int) != 1) = true -> (xo.toList == [99,111,108,117,109,110]) = false -> (xo.toList == [110,101,103]) = true -> (xo.toList == [110,111,116]) = false -> (xo.toList == [110,117,108,108]) = false -> isTwoN xo = false -> P) ->
  ((xo.toList == [118,97,108,117,101]) = false -> ((L: Int) != 1) = true -> (xo.toList == [99,111,108,117,109,110]) = false -> (xo.toList == [110,101,103]) = false -> (xo.toList == [110,111,116]) = true -> (xo.toList == [110,117,108,108]) = false -> isTwoN xo = false -> P) ->
  ((xo.toList == [118,97,108,117,101]) = false -> ((L: Int) != 1) = true -> (xo.toList == [99,111,108,117,109,110]) = false -> (xo.toList == [110,101,103]) = false -> (xo.toList == [110,111,116]) = false -> (xo.toList == [110,117,108,108]) = true -> isTwoN xo = false -> P) ->
  ((xo.toList == [118,97,108,117,101]) = false -> ((L: Int) != 2) = true -> (xo.toList == [99,111,108,117,109,110]) = false -> (xo.toList == [110,101,103]) = false -> (xo.toList == [110,111,116]) = false -> (xo.toList == [110,117,108,108]) = false -> isTwoN xo = true -> P) ->
  ((xo.toList == [118,97,108,117,101]) = false -> True -> (xo.toList == [99,111,108,117,109,110]) = false -> (xo.toList == [110,101,103]) = false -> (xo.toList == [110,111,116]) = false -> (xo.toList == [110,117,108,108]) = false -> isTwoN xo = false -> P) -> P := by
  intro P f1 f2 f3 f4 f5 f6 f7
  rcases kidsN_cases xo with e | e | e | e | e | e | ⟨-, e1,e2,e3,e4,e5,e6⟩
  · exact f1 (by rw [e]; rfl) (by rw [<- h]; simp [kidsN,e]) (by rw [e]; rfl) (by rw [e]; rfl) (by rw [e]; rfl) (by rw [e]; rfl) (by rw [isTwoN,e]; rfl)
  · exact f2 (by rw [e]; rfl) (by rw [<- h]; simp [kidsN,e]) (by rw [e]; rfl) (by rw [e]; rfl) (by rw [e]; rfl) (by rw [e]; rfl) (by rw [isTwoN,e]; rfl)
  · exact f3 (by rw [e]; rfl) (len_ne h (by rw [kidsN,e]; rfl)) (by rw [e]; rfl) (by rw [e]; rfl) (by rw [e]; rfl) (by rw [e]; rfl) (by rw [isTwoN,e]; rfl)
  · exact f4 (by rw [e]; rfl) (len_ne h (by rw [kidsN,e]; rfl)) (by rw [e]; rfl) (by rw [e]; rfl) (by rw [e]; rfl) (by rw [e]; rfl) (by rw [isTwoN,e]; rfl)
  · exact f5 (by rw [e]; rfl) (len_ne h (by rw [kidsN,e]; rfl)) (by rw [e]; rfl) (by rw [e]; rfl) (by rw [e]; rfl) (by rw [e]; rfl) (by rw [isTwoN,e]; rfl)
  · obtain ⟨e0,e1,e2,e3,e4,e5⟩ := two_facts e
    exact f6 e1 (len_ne h e0) e2 e3 e4 e5 e
  · exact f7 e1 trivial e2 e3 e4 e5 e6
 clear h
 apply fin
 all_goals
  clear fin
  intro kv kl kc k1 k2 k3 kt
  rw [kt] at HT
  clear kt
  go_enter Tryz.func88,Tryz.ntmps88
  go_wp2_with fail
  refine (HT.out _).mono ?_
  rintro e w1 ⟨rfl,hb⟩
  have HE := Rw.dh (Rbx.on (xo := xo) (xk := xk) (xn := xn) (xs := xs) (xv := xv) (xc := xc) (xa := xa) (k := L) (xp := xp) Rbx.new0 hb)
  clear hb HT
  obtain ⟨n0,n1,n2,n3,n4,n5,n6⟩ := HE.out.cn
  obtain ⟨r0,r1,r2,r3,r4,r5⟩ := cells3 HE.out.r
  obtain ⟨z0,z1,z2,z3,z4,z5⟩ := cells3 HE.out.z
  go_wp2
  exact bodyPost_ret (v := .tuple #[.agg #[.int .i64 0, .int .i64 0, .string ⟨#[]⟩], .int .i64 15]) (by simp [results,Tryz.results88,go_sem,r0,r1,r2]) rfl ⟨rfl,below_set3 (by omega) HE.out.bel _ _ _⟩
end
def REvIH (n: Nat) (ra: Option Addr) (rs: List RowL) (rc: Nat): Prop := ∀ (k: NL) (W: World),InN n W k -> deepN n k = false -> RowsIn W ra rs -> Calls Tryz.prog 88 #[nV k, .slice ra rs.length rc] W (RvP (evN n rs k) W)
theorem reck_err (op: ByteArray) (a b: Vv): errOr (reckVv op a b) (reckE op a.k a.n a.s b.k b.n b.s) = (reckVv op a b,reckE op a.k a.n a.s b.k b.n b.s) := by
 have h: reckE op a.k a.n a.s b.k b.n b.s = 0 \/ reckV op a.k a.n a.s b.k b.n b.s = valV 0 0 ⟨#[]⟩ := by
  unfold reckE reckV
  split
  · exact Or.inr rfl
  split
  · exact Or.inl rfl
  split
  · unfold catE catV
    split
    · exact Or.inl rfl
    · exact Or.inr rfl
  split
  · exact Or.inr rfl
  split
  · exact Or.inl rfl
  · exact Or.inr rfl
 unfold errOr
 rcases h with h | h
 · rw [h]; rfl
 · split
   · rename_i h0; rw [eq_of_beq h0]
   · rw [reckVv,h]; rfl
theorem truthT_range (k n: Int): truthT k n = 0 \/ truthT k n = 1 \/ truthT k n = 2 := by
 unfold truthT
 repeat' split
 all_goals simp
theorem tNot_range (a: Int): tNot a = 0 \/ tNot a = 1 \/ tNot a = 2 := by
 unfold tNot
 repeat' split
 all_goals simp
theorem tAnd_range (a b: Int): tAnd a b = 0 \/ tAnd a b = 1 \/ tAnd a b = 2 := by
 unfold tAnd
 repeat' split
 all_goals simp
theorem tOr_range (a b: Int): tOr a b = 0 \/ tOr a b = 1 \/ tOr a b = 2 := by
 unfold tOr
 repeat' split
 all_goals simp
section
variable {w W: World} {n: Nat} {ra: Option Addr} {rs: List RowL} {m rc: Nat} {xo: ByteArray} {xk xn: Int} {xs: ByteArray} {xv xc: Int} {xa: Option Addr} {k xp: Nat} {l: List NL}
theorem reval_neg {k0: NL} (ho: xo.toList = nNEG) (IH0: REvIH n ra rs rc) (hF: VFit (evN n rs k0).1) (hR: RowsIn w ra rs) (hS: Rw.SlG nC 7 w xa [k0]) (hI0: InN n w k0) (hd0: deepN n k0 = false) :
 Calls Tryz.prog 88 #[nV (.mk xo xk xn xs xv xc xa xp [k0]), .slice ra rs.length rc] w (RvP (oneE xo.toList (evN n rs k0)) w) := by
 have HT: Hid (∀ W,Calls Tryz.prog 67 #[.string xo] W fun e w' => e = .returned (.bool false) /\ Below W.heap.size W w') := fun W => by
  rw [show false = isTwoN xo by rw [isTwoN,ho]; rfl]; exact ntwo_walk xo W
 have q0: (xo.toList == [118,97,108,117,101]) = false := by rw [ho]; rfl
 have q1: (xo.toList == [99,111,108,117,109,110]) = false := by rw [ho]; rfl
 have q2: (xo.toList == [110,101,103]) = true := by rw [ho]; rfl
 have q3: (xo.toList == [110,111,116]) = false := by rw [ho]; rfl
 have q4: (xo.toList == [110,117,108,108]) = false := by rw [ho]; rfl
 have IH := Rw.dh (fun W (hb: Below w.heap.size w W) => IH0 k0 W (hI0.on hb) hd0 (hR.on hb))
 have HS := Rw.dh (fun W (hb: Below w.heap.size w W) => hS.below hb)
 obtain ⟨R,hRR⟩: ∃ R,R = oneE xo.toList (evN n rs k0) := ⟨_,rfl⟩
 rw [<- hRR]
 unfold oneE at hRR
 rw [ho] at hRR
 have HR := Rw.dh hRR
 have HF := Rw.dh hF
 unfold nV
 unfold nV at IH
 dsimp only [NL.op,NL.vk,NL.vn,NL.vs,NL.var,NL.col,NL.a,NL.c,NL.kids,List.length_cons,List.length_nil]
 clear ho IH0 hR hS hI0 hd0 hRR hF
 generalize evN n rs k0 = r0 at *
 go_enter Tryz.func88,Tryz.ntmps88
 go_wp2_with fail
 refine (HT.out _).mono ?_
 rintro e w1 ⟨rfl,hb⟩
 have HE := Rw.dh (Rbx.on (xo := xo) (xk := xk) (xn := xn) (xs := xs) (xv := xv) (xc := xc) (xa := xa) (k := 1) (xp := xp) Rbx.new0 hb)
 clear hb HT
 obtain ⟨n0,n1,n2,n3,n4,n5,n6⟩ := HE.out.cn
 obtain ⟨b,o,x0,rfl,hb,hx,hc⟩ := (HS.out _ HE.out.bel).at (j := 0) (by simp)
 obtain rfl: k0 = x0 := by simpa using hx
 have c0: w1.cell? ⟨b,o,none⟩ = some (.string k0.op) := by simpa using hc 0 _ rfl
 have c1: w1.cell? ⟨b,o + 1,none⟩ = some (.int .i64 k0.vk) := by simpa using hc 1 _ rfl
 have c2: w1.cell? ⟨b,o + 2,none⟩ = some (.int .i64 k0.vn) := by simpa using hc 2 _ rfl
 have c3: w1.cell? ⟨b,o + 3,none⟩ = some (.string k0.vs) := by simpa using hc 3 _ rfl
 have c4: w1.cell? ⟨b,o + 4,none⟩ = some (.int .i64 k0.var) := by simpa using hc 4 _ rfl
 have c5: w1.cell? ⟨b,o + 5,none⟩ = some (.int .i64 k0.col) := by simpa using hc 5 _ rfl
 have c6: w1.cell? ⟨b,o + 6,none⟩ = some (.slice k0.a k0.kids.length k0.c) := by simpa using hc 6 _ rfl
 clear hc hx hb
 go_wp2_with fail
 refine (IH.out _ HE.out.bel).mono ?_
 rintro e w2 ⟨rfl,hb⟩
 have HE2 := Rw.dh (HE.out.on hb)
 clear hb HE IH c0 c1 c2 c3 c4 c5 c6 n0 n1 n2 n3 n4 n5 n6
 obtain ⟨⟨vk,vn,vs⟩,r2⟩ := r0
 unfold vvV valV
 cases hc: (r2 != 0)
 · obtain rfl: r2 = 0 := by simpa using hc
   have HRK: Hid (∀ W,Calls Tryz.prog 124 #[.string ⟨#[45]⟩, .agg #[.int .i64 2, .int .i64 0, .string ⟨#[]⟩], .agg #[.int .i64 vk, .int .i64 vn, .string vs]] W fun e w' => e = .returned (.tuple #[vvV R.1, .int .i64 R.2]) /\ Below W.heap.size W w') := fun W => by
    have h := rreckon_walk minusB 2 0 ⟨#[]⟩ vk vn vs (by decide) HF.out.2.1 W
    have hR: R = (reckVv minusB ⟨2,0,⟨#[]⟩⟩ ⟨vk,vn,vs⟩,reckE minusB 2 0 ⟨#[]⟩ vk vn vs) := by
     rw [<- reck_err minusB ⟨2,0,⟨#[]⟩⟩ ⟨vk,vn,vs⟩]; exact HR.out
    rw [hR, <- reckVv_eq minusB ⟨2,0,⟨#[]⟩⟩ ⟨vk,vn,vs⟩]
    exact h
   clear HR HF
   obtain ⟨⟨uk,un,us⟩,c⟩ := R
   unfold vvV valV at HRK
   dsimp only at HRK
   have HE3 := Rw.dh (HE2.out.on (Rw.below_alloc _ (.cells #[.int .i64 vk, .int .i64 vn, .string vs] 27)))
   obtain ⟨m0,m1,m2,m3,m4,m5,m6⟩ := HE3.out.cn
   go_wp2_with fail
   refine (HRK.out _).mono ?_
   rintro e w3 ⟨rfl,hb⟩
   have HE4 := Rw.dh (HE3.out.on hb)
   clear hb HE2 HE3 HRK m0 m1 m2 m3 m4 m5 m6
   obtain ⟨s0,s1,s2,s3,s4,s5⟩ := cells3 HE4.out.r
   go_wp2
   exact bodyPost_ret (v := .tuple #[.agg #[.int .i64 uk, .int .i64 un, .string us], .int .i64 c]) (by simp [results,Tryz.results88,go_sem,s0,s1,s2]) rfl ⟨rfl,below_set3 (by omega) HE4.out.bel _ _ _⟩
 · have hR: R = (vz,r2) := by rw [HR.out,if_neg (by simpa using hc)]
   subst hR
   clear HR HF
   have HE3 := Rw.dh (HE2.out.on (Rw.below_alloc _ (.cells #[.int .i64 vk, .int .i64 vn, .string vs] 27)))
   clear HE2
   obtain ⟨s0,s1,s2,s3,s4,s5⟩ := cells3 HE3.out.r
   obtain ⟨z0,z1,z2,z3,z4,z5⟩ := cells3 HE3.out.z
   go_wp2
   exact bodyPost_ret (v := .tuple #[.agg #[.int .i64 0, .int .i64 0, .string ⟨#[]⟩], .int .i64 r2]) (by simp [results,Tryz.results88,go_sem,s0,s1,s2]) rfl ⟨rfl,below_set3 (by omega) HE3.out.bel _ _ _⟩
theorem reval_not {k0: NL} (ho: xo.toList = nNOT) (IH0: REvIH n ra rs rc) (hR: RowsIn w ra rs) (hS: Rw.SlG nC 7 w xa [k0]) (hI0: InN n w k0) (hd0: deepN n k0 = false) :
 Calls Tryz.prog 88 #[nV (.mk xo xk xn xs xv xc xa xp [k0]), .slice ra rs.length rc] w (RvP (oneE xo.toList (evN n rs k0)) w) := by
 have HT: Hid (∀ W,Calls Tryz.prog 67 #[.string xo] W fun e w' => e = .returned (.bool false) /\ Below W.heap.size W w') := fun W => by
  rw [show false = isTwoN xo by rw [isTwoN,ho]; rfl]; exact ntwo_walk xo W
 have q0: (xo.toList == [118,97,108,117,101]) = false := by rw [ho]; rfl
 have q1: (xo.toList == [99,111,108,117,109,110]) = false := by rw [ho]; rfl
 have q2: (xo.toList == [110,101,103]) = false := by rw [ho]; rfl
 have q3: (xo.toList == [110,111,116]) = true := by rw [ho]; rfl
 have q4: (xo.toList == [110,117,108,108]) = false := by rw [ho]; rfl
 have IH := Rw.dh (fun W (hb: Below w.heap.size w W) => IH0 k0 W (hI0.on hb) hd0 (hR.on hb))
 have HS := Rw.dh (fun W (hb: Below w.heap.size w W) => hS.below hb)
 obtain ⟨R,hRR⟩: ∃ R,R = oneE xo.toList (evN n rs k0) := ⟨_,rfl⟩
 rw [<- hRR]
 unfold oneE at hRR
 rw [ho] at hRR
 have HR := Rw.dh hRR
 unfold nV
 unfold nV at IH
 dsimp only [NL.op,NL.vk,NL.vn,NL.vs,NL.var,NL.col,NL.a,NL.c,NL.kids,List.length_cons,List.length_nil]
 clear ho IH0 hR hS hI0 hd0 hRR
 generalize evN n rs k0 = r0 at *
 go_enter Tryz.func88,Tryz.ntmps88
 go_wp2_with fail
 refine (HT.out _).mono ?_
 rintro e w1 ⟨rfl,hb⟩
 have HE := Rw.dh (Rbx.on (xo := xo) (xk := xk) (xn := xn) (xs := xs) (xv := xv) (xc := xc) (xa := xa) (k := 1) (xp := xp) Rbx.new0 hb)
 clear hb HT
 obtain ⟨n0,n1,n2,n3,n4,n5,n6⟩ := HE.out.cn
 obtain ⟨b,o,x0,rfl,hb,hx,hc⟩ := (HS.out _ HE.out.bel).at (j := 0) (by simp)
 obtain rfl: k0 = x0 := by simpa using hx
 have c0: w1.cell? ⟨b,o,none⟩ = some (.string k0.op) := by simpa using hc 0 _ rfl
 have c1: w1.cell? ⟨b,o + 1,none⟩ = some (.int .i64 k0.vk) := by simpa using hc 1 _ rfl
 have c2: w1.cell? ⟨b,o + 2,none⟩ = some (.int .i64 k0.vn) := by simpa using hc 2 _ rfl
 have c3: w1.cell? ⟨b,o + 3,none⟩ = some (.string k0.vs) := by simpa using hc 3 _ rfl
 have c4: w1.cell? ⟨b,o + 4,none⟩ = some (.int .i64 k0.var) := by simpa using hc 4 _ rfl
 have c5: w1.cell? ⟨b,o + 5,none⟩ = some (.int .i64 k0.col) := by simpa using hc 5 _ rfl
 have c6: w1.cell? ⟨b,o + 6,none⟩ = some (.slice k0.a k0.kids.length k0.c) := by simpa using hc 6 _ rfl
 clear hc hx hb
 go_wp2_with fail
 refine (IH.out _ HE.out.bel).mono ?_
 rintro e w2 ⟨rfl,hb⟩
 have HE2 := Rw.dh (HE.out.on hb)
 clear hb HE IH c0 c1 c2 c3 c4 c5 c6 n0 n1 n2 n3 n4 n5 n6
 obtain ⟨⟨vk,vn,vs⟩,r2⟩ := r0
 unfold vvV valV
 cases hc: (r2 != 0)
 · obtain rfl: r2 = 0 := by simpa using hc
   have HRT := Rw.dh (fun W => rtruth_walk vk vn vs W)
   have HR1: Hid (R = if truthE vk vn == 0 then (ofVv (tNot (truthT vk vn)),0) else (vz,truthE vk vn)) := HR.out
   clear HR hc
   have HE3 := Rw.dh (HE2.out.on (Rw.below_alloc _ (.cells #[.int .i64 vk, .int .i64 vn, .string vs] 27)))
   obtain ⟨m0,m1,m2,m3,m4,m5,m6⟩ := HE3.out.cn
   unfold valV at HRT
   generalize truthT vk vn = t at HRT HR1
   generalize truthE vk vn = c at HRT HR1
   go_wp2_with fail
   refine (HRT.out _).mono ?_
   rintro e w3 ⟨rfl,hb⟩
   have HE4 := Rw.dh (HE3.out.on hb)
   clear hb HE2 HE3 HRT m0 m1 m2 m3 m4 m5 m6
   obtain ⟨m0,m1,m2,m3,m4,m5,m6⟩ := HE4.out.cn
   cases hc: (c != 0)
   · obtain rfl: c = 0 := by simpa using hc
     have hR: R = (ofVv (tNot t),0) := HR1.out
     subst hR
     clear HR1
     have HO := Rw.dh (fun W => rof_walk (tNot t) (tNot_range t) W)
     go_wp2_with (go_at_call 126; refine (rnot_walk _ _).mono ?_; rintro e w' ⟨rfl,rfl⟩)
     refine (HO.out _).mono ?_
     rintro e w5 ⟨rfl,hb⟩
     have HE5 := Rw.dh (HE4.out.on hb)
     clear hb HE4 HO m0 m1 m2 m3 m4 m5 m6
     generalize ofVv (tNot t) = r at *
     obtain ⟨uk,un,us⟩ := r
     unfold vvV valV
     obtain ⟨s0,s1,s2,s3,s4,s5⟩ := cells3 HE5.out.r
     go_wp2
     exact bodyPost_ret (v := .tuple #[.agg #[.int .i64 uk, .int .i64 un, .string us], .int .i64 0]) (by simp [results,Tryz.results88,go_sem,s0,s1,s2]) rfl ⟨rfl,below_set3 (by omega) HE5.out.bel _ _ _⟩
   · have hR: R = (vz,c) := by rw [HR1.out,if_neg (by simpa using hc)]
     subst hR
     clear HR1
     obtain ⟨s0,s1,s2,s3,s4,s5⟩ := cells3 HE4.out.r
     obtain ⟨z0,z1,z2,z3,z4,z5⟩ := cells3 HE4.out.z
     go_wp2
     exact bodyPost_ret (v := .tuple #[.agg #[.int .i64 0, .int .i64 0, .string ⟨#[]⟩], .int .i64 c]) (by simp [results,Tryz.results88,go_sem,s0,s1,s2]) rfl ⟨rfl,below_set3 (by omega) HE4.out.bel _ _ _⟩
 · have hR: R = (vz,r2) := by rw [HR.out,if_neg (by simpa using hc)]
   subst hR
   clear HR
   have HE3 := Rw.dh (HE2.out.on (Rw.below_alloc _ (.cells #[.int .i64 vk, .int .i64 vn, .string vs] 27)))
   clear HE2
   obtain ⟨s0,s1,s2,s3,s4,s5⟩ := cells3 HE3.out.r
   obtain ⟨z0,z1,z2,z3,z4,z5⟩ := cells3 HE3.out.z
   go_wp2
   exact bodyPost_ret (v := .tuple #[.agg #[.int .i64 0, .int .i64 0, .string ⟨#[]⟩], .int .i64 r2]) (by simp [results,Tryz.results88,go_sem,s0,s1,s2]) rfl ⟨rfl,below_set3 (by omega) HE3.out.bel _ _ _⟩
theorem reval_null {k0: NL} (ho: xo.toList = nNULL) (IH0: REvIH n ra rs rc) (hR: RowsIn w ra rs) (hS: Rw.SlG nC 7 w xa [k0]) (hI0: InN n w k0) (hd0: deepN n k0 = false) :
 Calls Tryz.prog 88 #[nV (.mk xo xk xn xs xv xc xa xp [k0]), .slice ra rs.length rc] w (RvP (oneE xo.toList (evN n rs k0)) w) := by
 have HT: Hid (∀ W,Calls Tryz.prog 67 #[.string xo] W fun e w' => e = .returned (.bool false) /\ Below W.heap.size W w') := fun W => by
  rw [show false = isTwoN xo by rw [isTwoN,ho]; rfl]; exact ntwo_walk xo W
 have q0: (xo.toList == [118,97,108,117,101]) = false := by rw [ho]; rfl
 have q1: (xo.toList == [99,111,108,117,109,110]) = false := by rw [ho]; rfl
 have q2: (xo.toList == [110,101,103]) = false := by rw [ho]; rfl
 have q3: (xo.toList == [110,111,116]) = false := by rw [ho]; rfl
 have q4: (xo.toList == [110,117,108,108]) = true := by rw [ho]; rfl
 have IH := Rw.dh (fun W (hb: Below w.heap.size w W) => IH0 k0 W (hI0.on hb) hd0 (hR.on hb))
 have HS := Rw.dh (fun W (hb: Below w.heap.size w W) => hS.below hb)
 obtain ⟨R,hRR⟩: ∃ R,R = oneE xo.toList (evN n rs k0) := ⟨_,rfl⟩
 rw [<- hRR]
 unfold oneE at hRR
 rw [ho] at hRR
 have HR := Rw.dh hRR
 unfold nV
 unfold nV at IH
 dsimp only [NL.op,NL.vk,NL.vn,NL.vs,NL.var,NL.col,NL.a,NL.c,NL.kids,List.length_cons,List.length_nil]
 clear ho IH0 hR hS hI0 hd0 hRR
 generalize evN n rs k0 = r0 at *
 go_enter Tryz.func88,Tryz.ntmps88
 go_wp2_with fail
 refine (HT.out _).mono ?_
 rintro e w1 ⟨rfl,hb⟩
 have HE := Rw.dh (Rbx.on (xo := xo) (xk := xk) (xn := xn) (xs := xs) (xv := xv) (xc := xc) (xa := xa) (k := 1) (xp := xp) Rbx.new0 hb)
 clear hb HT
 obtain ⟨n0,n1,n2,n3,n4,n5,n6⟩ := HE.out.cn
 obtain ⟨b,o,x0,rfl,hb,hx,hc⟩ := (HS.out _ HE.out.bel).at (j := 0) (by simp)
 obtain rfl: k0 = x0 := by simpa using hx
 have c0: w1.cell? ⟨b,o,none⟩ = some (.string k0.op) := by simpa using hc 0 _ rfl
 have c1: w1.cell? ⟨b,o + 1,none⟩ = some (.int .i64 k0.vk) := by simpa using hc 1 _ rfl
 have c2: w1.cell? ⟨b,o + 2,none⟩ = some (.int .i64 k0.vn) := by simpa using hc 2 _ rfl
 have c3: w1.cell? ⟨b,o + 3,none⟩ = some (.string k0.vs) := by simpa using hc 3 _ rfl
 have c4: w1.cell? ⟨b,o + 4,none⟩ = some (.int .i64 k0.var) := by simpa using hc 4 _ rfl
 have c5: w1.cell? ⟨b,o + 5,none⟩ = some (.int .i64 k0.col) := by simpa using hc 5 _ rfl
 have c6: w1.cell? ⟨b,o + 6,none⟩ = some (.slice k0.a k0.kids.length k0.c) := by simpa using hc 6 _ rfl
 clear hc hx hb
 go_wp2_with fail
 refine (IH.out _ HE.out.bel).mono ?_
 rintro e w2 ⟨rfl,hb⟩
 have HE2 := Rw.dh (HE.out.on hb)
 clear hb HE IH c0 c1 c2 c3 c4 c5 c6 n0 n1 n2 n3 n4 n5 n6
 obtain ⟨⟨vk,vn,vs⟩,r2⟩ := r0
 unfold vvV valV
 cases hc: (r2 != 0)
 · obtain rfl: r2 = 0 := by simpa using hc
   have HR1: Hid (R = (ofVv (if isZ ⟨vk,vn,vs⟩ then 1 else 0),0)) := HR.out
   clear HR hc
   have HE3 := Rw.dh (HE2.out.on (Rw.below_alloc _ (.cells #[.int .i64 vk, .int .i64 vn, .string vs] 27)))
   obtain ⟨m0,m1,m2,m3,m4,m5,m6⟩ := HE3.out.cn
   obtain ⟨z0,z1,z2,z3,z4,z5⟩ := cells3 HE3.out.z
   have hz: isZ ⟨vk,vn,vs⟩ = (vk == 0 && vn == 0 && vs.toList == []) := rfl
   rw [hz] at HR1
   clear hz
   cases h1: (vk == 0) <;> cases h2: (vn == 0) <;> cases h3: (vs.toList == []) <;> rw [h1,h2,h3] at HR1
   case true.true.true =>
    have hR: R = (ofVv 1,0) := HR1.out
    subst hR
    clear HR1
    have HO := Rw.dh (fun W => rof_walk 1 (by decide) W)
    go_wp2_with fail
    refine (HO.out _).mono ?_
    rintro e w5 ⟨rfl,hb⟩
    have HE5 := Rw.dh (HE3.out.on hb)
    clear hb HE3 HE2 HO m0 m1 m2 m3 m4 m5 m6 z0 z1 z2 z3 z4 z5
    generalize ofVv 1 = r at *
    obtain ⟨uk,un,us⟩ := r
    unfold vvV valV
    obtain ⟨s0,s1,s2,s3,s4,s5⟩ := cells3 HE5.out.r
    go_wp2
    exact bodyPost_ret (v := .tuple #[.agg #[.int .i64 uk, .int .i64 un, .string us], .int .i64 0]) (by simp [results,Tryz.results88,go_sem,s0,s1,s2]) rfl ⟨rfl,below_set3 (by omega) HE5.out.bel _ _ _⟩
   all_goals
    have hR: R = (ofVv 0,0) := HR1.out
    subst hR
    clear HR1
    have HO := Rw.dh (fun W => rof_walk 0 (by decide) W)
    go_wp2_with fail
    refine (HO.out _).mono ?_
    rintro e w5 ⟨rfl,hb⟩
    have HE5 := Rw.dh (HE3.out.on hb)
    clear hb HE3 HE2 HO m0 m1 m2 m3 m4 m5 m6 z0 z1 z2 z3 z4 z5
    generalize ofVv 0 = r at *
    obtain ⟨uk,un,us⟩ := r
    unfold vvV valV
    obtain ⟨s0,s1,s2,s3,s4,s5⟩ := cells3 HE5.out.r
    go_wp2
    exact bodyPost_ret (v := .tuple #[.agg #[.int .i64 uk, .int .i64 un, .string us], .int .i64 0]) (by simp [results,Tryz.results88,go_sem,s0,s1,s2]) rfl ⟨rfl,below_set3 (by omega) HE5.out.bel _ _ _⟩
 · have hR: R = (vz,r2) := by rw [HR.out,if_neg (by simpa using hc)]
   subst hR
   clear HR
   have HE3 := Rw.dh (HE2.out.on (Rw.below_alloc _ (.cells #[.int .i64 vk, .int .i64 vn, .string vs] 27)))
   clear HE2
   obtain ⟨s0,s1,s2,s3,s4,s5⟩ := cells3 HE3.out.r
   obtain ⟨z0,z1,z2,z3,z4,z5⟩ := cells3 HE3.out.z
   go_wp2
   exact bodyPost_ret (v := .tuple #[.agg #[.int .i64 0, .int .i64 0, .string ⟨#[]⟩], .int .i64 r2]) (by simp [results,Tryz.results88,go_sem,s0,s1,s2]) rfl ⟨rfl,below_set3 (by omega) HE3.out.bel _ _ _⟩
end
theorem trE_no {a: VE} (h: (a.2 != 0) = true): trE a = (0,a.2) := by
 unfold trE
 rw [if_neg (by simpa using h)]
theorem both_no {s: Int} {j: Int -> Int -> Int} {a b: VE} {t c: Int} (h: trE a = (t,c)) (hc: (c != 0) = true): evBoth s j a b = (vz,c) := by
 unfold evBoth
 rw [h,if_neg (by simpa using hc)]
theorem both_set {s: Int} {j: Int -> Int -> Int} {a b: VE} {t: Int} (h: trE a = (t,0)) (ht: (t == s) = true): evBoth s j a b = (ofVv t,0) := by
 unfold evBoth
 rw [h]
 show (if t == s then (ofVv t,0) else _) = _
 rw [if_pos ht]
theorem both_no2 {s: Int} {j: Int -> Int -> Int} {a b: VE} {t u c: Int} (h: trE a = (t,0)) (ht: (t == s) = false) (h1: trE b = (u,c)) (hc: (c != 0) = true): evBoth s j a b = (vz,c) := by
 unfold evBoth
 rw [h,h1]
 show (if t == s then (ofVv t,0) else if c == 0 then _ else _) = _
 rw [if_neg (by simpa using ht),if_neg (by simpa using hc)]
theorem both_yes {s: Int} {j: Int -> Int -> Int} {a b: VE} {t u: Int} (h: trE a = (t,0)) (ht: (t == s) = false) (h1: trE b = (u,0)): evBoth s j a b = (ofVv (j t u),0) := by
 unfold evBoth
 rw [h,h1]
 show (if t == s then (ofVv t,0) else (ofVv (j t u),0)) = _
 rw [if_neg (by simpa using ht)]
section
variable {w W: World} {n: Nat} {ra: Option Addr} {rs: List RowL} {m rc: Nat} {xo: ByteArray} {xk xn: Int} {xs: ByteArray} {xv xc: Int} {xa: Option Addr} {k xp: Nat} {l: List NL}
theorem reval_and {k0 k1: NL} (ho: xo.toList = nAND) (IH0: REvIH n ra rs rc) (hR: RowsIn w ra rs) (hS: Rw.SlG nC 7 w xa [k0,k1]) (hI0: InN n w k0) (hd0: deepN n k0 = false) (hI1: InN n w k1) (hd1: deepN n k1 = false) :
 Calls Tryz.prog 88 #[nV (.mk xo xk xn xs xv xc xa xp [k0,k1]), .slice ra rs.length rc] w (RvP (evBoth 0 tAnd (evN n rs k0) (evN n rs k1)) w) := by
 have HT: Hid (∀ W,Calls Tryz.prog 67 #[.string xo] W fun e w' => e = .returned (.bool true) /\ Below W.heap.size W w') := fun W => by
  rw [show true = isTwoN xo by rw [isTwoN,ho]; rfl]; exact ntwo_walk xo W
 have q0: (xo.toList == [118,97,108,117,101]) = false := by rw [ho]; rfl
 have q1: (xo.toList == [99,111,108,117,109,110]) = false := by rw [ho]; rfl
 have q2: (xo.toList == [110,101,103]) = false := by rw [ho]; rfl
 have q3: (xo.toList == [110,111,116]) = false := by rw [ho]; rfl
 have q4: (xo.toList == [110,117,108,108]) = false := by rw [ho]; rfl
 have q5: (xo.toList == [97,110,100]) = true := by rw [ho]; rfl
 have q6: (xo.toList == [111,114]) = false := by rw [ho]; rfl
 have IH := Rw.dh (fun W (hb: Below w.heap.size w W) => IH0 k0 W (hI0.on hb) hd0 (hR.on hb))
 have IH1 := Rw.dh (fun W (hb: Below w.heap.size w W) => IH0 k1 W (hI1.on hb) hd1 (hR.on hb))
 have HS := Rw.dh (fun W (hb: Below w.heap.size w W) => hS.below hb)
 obtain ⟨R,hRR⟩: ∃ R,R = evBoth 0 tAnd (evN n rs k0) (evN n rs k1) := ⟨_,rfl⟩
 rw [<- hRR]
 have HR := Rw.dh hRR
 have HT1 := Rw.dh (fun (a b: Int) W => rand_walk a b W)
 unfold nV
 unfold nV at IH IH1
 dsimp only [NL.op,NL.vk,NL.vn,NL.vs,NL.var,NL.col,NL.a,NL.c,NL.kids,List.length_cons,List.length_nil]
 clear ho IH0 hR hS hI0 hd0 hI1 hd1 hRR
 generalize evN n rs k0 = r0 at *
 generalize evN n rs k1 = q0 at *
 go_enter Tryz.func88,Tryz.ntmps88
 go_wp2_with fail
 refine (HT.out _).mono ?_
 rintro e w1 ⟨rfl,hb⟩
 have HE := Rw.dh (Rbx.on (xo := xo) (xk := xk) (xn := xn) (xs := xs) (xv := xv) (xc := xc) (xa := xa) (k := 2) (xp := xp) Rbx.new0 hb)
 clear hb HT
 obtain ⟨n0,n1,n2,n3,n4,n5,n6⟩ := HE.out.cn
 obtain ⟨b,o,x0,rfl,hb,hx,hc⟩ := (HS.out _ HE.out.bel).at (j := 0) (by simp)
 obtain rfl: k0 = x0 := by simpa using hx
 have c0: w1.cell? ⟨b,o,none⟩ = some (.string k0.op) := by simpa using hc 0 _ rfl
 have c1: w1.cell? ⟨b,o + 1,none⟩ = some (.int .i64 k0.vk) := by simpa using hc 1 _ rfl
 have c2: w1.cell? ⟨b,o + 2,none⟩ = some (.int .i64 k0.vn) := by simpa using hc 2 _ rfl
 have c3: w1.cell? ⟨b,o + 3,none⟩ = some (.string k0.vs) := by simpa using hc 3 _ rfl
 have c4: w1.cell? ⟨b,o + 4,none⟩ = some (.int .i64 k0.var) := by simpa using hc 4 _ rfl
 have c5: w1.cell? ⟨b,o + 5,none⟩ = some (.int .i64 k0.col) := by simpa using hc 5 _ rfl
 have c6: w1.cell? ⟨b,o + 6,none⟩ = some (.slice k0.a k0.kids.length k0.c) := by simpa using hc 6 _ rfl
 clear hc hx hb
 go_wp2_with fail
 refine (IH.out _ HE.out.bel).mono ?_
 rintro e w2 ⟨rfl,hb⟩
 have HE2 := Rw.dh (HE.out.on hb)
 clear hb HE IH c0 c1 c2 c3 c4 c5 c6 n0 n1 n2 n3 n4 n5 n6
 obtain ⟨⟨vk,vn,vs⟩,r2⟩ := r0
 unfold vvV valV
 cases hc: (r2 != 0)
 · obtain rfl: r2 = 0 := by simpa using hc
   have HRT := Rw.dh (fun k n s W => rtruth_walk k n s W)
   unfold valV at HRT
   clear hc
   have HE3 := Rw.dh (HE2.out.on (Rw.below_alloc _ (.cells #[.int .i64 vk, .int .i64 vn, .string vs] 27)))
   obtain ⟨m0,m1,m2,m3,m4,m5,m6⟩ := HE3.out.cn
   go_wp2_with fail
   refine (HRT.out vk vn vs _).mono ?_
   rintro e w3 ⟨rfl,hb⟩
   have HE4 := Rw.dh (HE3.out.on hb)
   clear hb HE2 HE3 m0 m1 m2 m3 m4 m5 m6
   have ht := truthT_range vk vn
   have HB: Hid (∀ c,truthE vk vn = c -> trE (⟨vk,vn,vs⟩,0) = if c == 0 then (truthT vk vn,0) else (0,c)) := fun c hc => by rw [<- hc]; rfl
   generalize truthT vk vn = t at *
   generalize truthE vk vn = c at *
   cases hc: (c != 0)
   · obtain rfl: c = 0 := by simpa using hc
     have HA: Hid (trE (⟨vk,vn,vs⟩,0) = (t,0)) := HB.out 0 rfl
     have HO := Rw.dh (fun t h W => rof_walk t h W)
     clear HB hc
     obtain ⟨m0,m1,m2,m3,m4,m5,m6⟩ := HE4.out.cn
     cases hs: (t == 0)
     · skip
       obtain ⟨n0,n1,n2,n3,n4,n5,n6⟩ := HE4.out.cn
       obtain ⟨b',o',x1,hbo,hb,hx,hc⟩ := (HS.out _ HE4.out.bel).at (j := 1) (by simp)
       obtain ⟨rfl,rfl⟩: b' = b /\ o' = o := by
        have := Option.some.inj hbo
        exact ⟨(congrArg Addr.block this).symm,(congrArg Addr.off this).symm⟩
       obtain rfl: k1 = x1 := by simpa using hx
       have c0: w3.cell? ⟨b',o' + 7,none⟩ = some (.string k1.op) := by simpa using hc 0 _ rfl
       have c1: w3.cell? ⟨b',o' + 7 + 1,none⟩ = some (.int .i64 k1.vk) := by simpa using hc 1 _ rfl
       have c2: w3.cell? ⟨b',o' + 7 + 2,none⟩ = some (.int .i64 k1.vn) := by simpa using hc 2 _ rfl
       have c3: w3.cell? ⟨b',o' + 7 + 3,none⟩ = some (.string k1.vs) := by simpa using hc 3 _ rfl
       have c4: w3.cell? ⟨b',o' + 7 + 4,none⟩ = some (.int .i64 k1.var) := by simpa using hc 4 _ rfl
       have c5: w3.cell? ⟨b',o' + 7 + 5,none⟩ = some (.int .i64 k1.col) := by simpa using hc 5 _ rfl
       have c6: w3.cell? ⟨b',o' + 7 + 6,none⟩ = some (.slice k1.a k1.kids.length k1.c) := by simpa using hc 6 _ rfl
       clear hc hx hb hbo
       go_wp2_with fail
       refine (IH1.out _ HE4.out.bel).mono ?_
       rintro e w5 ⟨rfl,hb⟩
       have HE5 := Rw.dh (HE4.out.on hb)
       clear hb HE4 IH1 c0 c1 c2 c3 c4 c5 c6 n0 n1 n2 n3 n4 n5 n6 m0 m1 m2 m3 m4 m5 m6
       obtain ⟨⟨bk,bn,bs⟩,q2⟩ := q0
       unfold vvV valV
       cases hc: (q2 != 0)
       · obtain rfl: q2 = 0 := by simpa using hc
         clear hc
         have HE6 := Rw.dh (HE5.out.on (Rw.below_alloc _ (.cells #[.int .i64 bk, .int .i64 bn, .string bs] 27)))
         go_wp2_with fail
         refine (HRT.out bk bn bs _).mono ?_
         rintro e w7 ⟨rfl,hb⟩
         have HE7 := Rw.dh (HE6.out.on hb)
         clear hb HE5 HE6
         have HB: Hid (∀ c,truthE bk bn = c -> trE (⟨bk,bn,bs⟩,0) = if c == 0 then (truthT bk bn,0) else (0,c)) := fun c hc => by rw [<- hc]; rfl
         generalize truthT bk bn = u at *
         generalize truthE bk bn = c at *
         obtain ⟨m0,m1,m2,m3,m4,m5,m6⟩ := HE7.out.cn
         cases hc: (c != 0)
         · obtain rfl: c = 0 := by simpa using hc
           have hR: R = (ofVv (tAnd t u),0) := by rw [HR.out]; exact both_yes HA.out hs (HB.out 0 rfl)
           subst hR
           clear HR HB
           go_wp2_with (go_at_call 127; refine (HT1.out _ _ _).mono ?_; rintro e w' ⟨rfl,rfl⟩)
           refine (HO.out _ (tAnd_range _ _) _).mono ?_
           rintro e w8 ⟨rfl,hb⟩
           have HE8 := Rw.dh (HE7.out.on hb)
           clear hb HE7 m0 m1 m2 m3 m4 m5 m6
           generalize ofVv (tAnd t u) = r at *
           obtain ⟨uk,un,us⟩ := r
           unfold vvV valV
           obtain ⟨s0,s1,s2,s3,s4,s5⟩ := cells3 HE8.out.r
           go_wp2
           exact bodyPost_ret (v := .tuple #[.agg #[.int .i64 uk, .int .i64 un, .string us], .int .i64 0]) (by simp [results,Tryz.results88,go_sem,s0,s1,s2]) rfl ⟨rfl,below_set3 (by omega) HE8.out.bel _ _ _⟩
         · have hR: R = (vz,c) := by rw [HR.out]; exact both_no2 HA.out hs ((HB.out c rfl).trans (if_neg (by simpa using hc))) hc
           subst hR
           clear HR HB
           obtain ⟨s0,s1,s2,s3,s4,s5⟩ := cells3 HE7.out.r
           obtain ⟨z0,z1,z2,z3,z4,z5⟩ := cells3 HE7.out.z
           go_wp2
           exact bodyPost_ret (v := .tuple #[.agg #[.int .i64 0, .int .i64 0, .string ⟨#[]⟩], .int .i64 c]) (by simp [results,Tryz.results88,go_sem,s0,s1,s2]) rfl ⟨rfl,below_set3 (by omega) HE7.out.bel _ _ _⟩
       · have hR: R = (vz,q2) := by rw [HR.out]; exact both_no2 HA.out hs (trE_no (a := (⟨bk,bn,bs⟩,q2)) hc) hc
         subst hR
         clear HR
         have HE6 := Rw.dh (HE5.out.on (Rw.below_alloc _ (.cells #[.int .i64 bk, .int .i64 bn, .string bs] 27)))
         clear HE5
         obtain ⟨s0,s1,s2,s3,s4,s5⟩ := cells3 HE6.out.r
         obtain ⟨z0,z1,z2,z3,z4,z5⟩ := cells3 HE6.out.z
         go_wp2
         exact bodyPost_ret (v := .tuple #[.agg #[.int .i64 0, .int .i64 0, .string ⟨#[]⟩], .int .i64 q2]) (by simp [results,Tryz.results88,go_sem,s0,s1,s2]) rfl ⟨rfl,below_set3 (by omega) HE6.out.bel _ _ _⟩
     · have hR: R = (ofVv t,0) := by rw [HR.out]; exact both_set HA.out hs
       subst hR
       clear HR
       go_wp2_with fail
       refine (HO.out _ ht _).mono ?_
       rintro e w5 ⟨rfl,hb⟩
       have HE5 := Rw.dh (HE4.out.on hb)
       clear hb HE4 m0 m1 m2 m3 m4 m5 m6
       generalize ofVv t = r at *
       obtain ⟨uk,un,us⟩ := r
       unfold vvV valV
       obtain ⟨s0,s1,s2,s3,s4,s5⟩ := cells3 HE5.out.r
       go_wp2
       exact bodyPost_ret (v := .tuple #[.agg #[.int .i64 uk, .int .i64 un, .string us], .int .i64 0]) (by simp [results,Tryz.results88,go_sem,s0,s1,s2]) rfl ⟨rfl,below_set3 (by omega) HE5.out.bel _ _ _⟩
   · have hR: R = (vz,c) := by rw [HR.out]; exact both_no ((HB.out c rfl).trans (if_neg (by simpa using hc))) hc
     subst hR
     clear HR HB
     obtain ⟨s0,s1,s2,s3,s4,s5⟩ := cells3 HE4.out.r
     obtain ⟨z0,z1,z2,z3,z4,z5⟩ := cells3 HE4.out.z
     go_wp2
     exact bodyPost_ret (v := .tuple #[.agg #[.int .i64 0, .int .i64 0, .string ⟨#[]⟩], .int .i64 c]) (by simp [results,Tryz.results88,go_sem,s0,s1,s2]) rfl ⟨rfl,below_set3 (by omega) HE4.out.bel _ _ _⟩
 · have hR: R = (vz,r2) := by rw [HR.out]; exact both_no (trE_no (a := (⟨vk,vn,vs⟩,r2)) hc) hc
   subst hR
   clear HR
   have HE3 := Rw.dh (HE2.out.on (Rw.below_alloc _ (.cells #[.int .i64 vk, .int .i64 vn, .string vs] 27)))
   clear HE2
   obtain ⟨s0,s1,s2,s3,s4,s5⟩ := cells3 HE3.out.r
   obtain ⟨z0,z1,z2,z3,z4,z5⟩ := cells3 HE3.out.z
   go_wp2
   exact bodyPost_ret (v := .tuple #[.agg #[.int .i64 0, .int .i64 0, .string ⟨#[]⟩], .int .i64 r2]) (by simp [results,Tryz.results88,go_sem,s0,s1,s2]) rfl ⟨rfl,below_set3 (by omega) HE3.out.bel _ _ _⟩
theorem reval_or {k0 k1: NL} (ho: xo.toList = nOR) (IH0: REvIH n ra rs rc) (hR: RowsIn w ra rs) (hS: Rw.SlG nC 7 w xa [k0,k1]) (hI0: InN n w k0) (hd0: deepN n k0 = false) (hI1: InN n w k1) (hd1: deepN n k1 = false) :
 Calls Tryz.prog 88 #[nV (.mk xo xk xn xs xv xc xa xp [k0,k1]), .slice ra rs.length rc] w (RvP (evBoth 1 tOr (evN n rs k0) (evN n rs k1)) w) := by
 have HT: Hid (∀ W,Calls Tryz.prog 67 #[.string xo] W fun e w' => e = .returned (.bool true) /\ Below W.heap.size W w') := fun W => by
  rw [show true = isTwoN xo by rw [isTwoN,ho]; rfl]; exact ntwo_walk xo W
 have q0: (xo.toList == [118,97,108,117,101]) = false := by rw [ho]; rfl
 have q1: (xo.toList == [99,111,108,117,109,110]) = false := by rw [ho]; rfl
 have q2: (xo.toList == [110,101,103]) = false := by rw [ho]; rfl
 have q3: (xo.toList == [110,111,116]) = false := by rw [ho]; rfl
 have q4: (xo.toList == [110,117,108,108]) = false := by rw [ho]; rfl
 have q5: (xo.toList == [97,110,100]) = false := by rw [ho]; rfl
 have q6: (xo.toList == [111,114]) = true := by rw [ho]; rfl
 have IH := Rw.dh (fun W (hb: Below w.heap.size w W) => IH0 k0 W (hI0.on hb) hd0 (hR.on hb))
 have IH1 := Rw.dh (fun W (hb: Below w.heap.size w W) => IH0 k1 W (hI1.on hb) hd1 (hR.on hb))
 have HS := Rw.dh (fun W (hb: Below w.heap.size w W) => hS.below hb)
 obtain ⟨R,hRR⟩: ∃ R,R = evBoth 1 tOr (evN n rs k0) (evN n rs k1) := ⟨_,rfl⟩
 rw [<- hRR]
 have HR := Rw.dh hRR
 have HT1 := Rw.dh (fun (a b: Int) W => ror_walk a b W)
 unfold nV
 unfold nV at IH IH1
 dsimp only [NL.op,NL.vk,NL.vn,NL.vs,NL.var,NL.col,NL.a,NL.c,NL.kids,List.length_cons,List.length_nil]
 clear ho IH0 hR hS hI0 hd0 hI1 hd1 hRR
 generalize evN n rs k0 = r0 at *
 generalize evN n rs k1 = q0 at *
 go_enter Tryz.func88,Tryz.ntmps88
 go_wp2_with fail
 refine (HT.out _).mono ?_
 rintro e w1 ⟨rfl,hb⟩
 have HE := Rw.dh (Rbx.on (xo := xo) (xk := xk) (xn := xn) (xs := xs) (xv := xv) (xc := xc) (xa := xa) (k := 2) (xp := xp) Rbx.new0 hb)
 clear hb HT
 obtain ⟨n0,n1,n2,n3,n4,n5,n6⟩ := HE.out.cn
 obtain ⟨b,o,x0,rfl,hb,hx,hc⟩ := (HS.out _ HE.out.bel).at (j := 0) (by simp)
 obtain rfl: k0 = x0 := by simpa using hx
 have c0: w1.cell? ⟨b,o,none⟩ = some (.string k0.op) := by simpa using hc 0 _ rfl
 have c1: w1.cell? ⟨b,o + 1,none⟩ = some (.int .i64 k0.vk) := by simpa using hc 1 _ rfl
 have c2: w1.cell? ⟨b,o + 2,none⟩ = some (.int .i64 k0.vn) := by simpa using hc 2 _ rfl
 have c3: w1.cell? ⟨b,o + 3,none⟩ = some (.string k0.vs) := by simpa using hc 3 _ rfl
 have c4: w1.cell? ⟨b,o + 4,none⟩ = some (.int .i64 k0.var) := by simpa using hc 4 _ rfl
 have c5: w1.cell? ⟨b,o + 5,none⟩ = some (.int .i64 k0.col) := by simpa using hc 5 _ rfl
 have c6: w1.cell? ⟨b,o + 6,none⟩ = some (.slice k0.a k0.kids.length k0.c) := by simpa using hc 6 _ rfl
 clear hc hx hb
 go_wp2_with fail
 refine (IH.out _ HE.out.bel).mono ?_
 rintro e w2 ⟨rfl,hb⟩
 have HE2 := Rw.dh (HE.out.on hb)
 clear hb HE IH c0 c1 c2 c3 c4 c5 c6 n0 n1 n2 n3 n4 n5 n6
 obtain ⟨⟨vk,vn,vs⟩,r2⟩ := r0
 unfold vvV valV
 cases hc: (r2 != 0)
 · obtain rfl: r2 = 0 := by simpa using hc
   have HRT := Rw.dh (fun k n s W => rtruth_walk k n s W)
   unfold valV at HRT
   clear hc
   have HE3 := Rw.dh (HE2.out.on (Rw.below_alloc _ (.cells #[.int .i64 vk, .int .i64 vn, .string vs] 27)))
   obtain ⟨m0,m1,m2,m3,m4,m5,m6⟩ := HE3.out.cn
   go_wp2_with fail
   refine (HRT.out vk vn vs _).mono ?_
   rintro e w3 ⟨rfl,hb⟩
   have HE4 := Rw.dh (HE3.out.on hb)
   clear hb HE2 HE3 m0 m1 m2 m3 m4 m5 m6
   have ht := truthT_range vk vn
   have HB: Hid (∀ c,truthE vk vn = c -> trE (⟨vk,vn,vs⟩,0) = if c == 0 then (truthT vk vn,0) else (0,c)) := fun c hc => by rw [<- hc]; rfl
   generalize truthT vk vn = t at *
   generalize truthE vk vn = c at *
   cases hc: (c != 0)
   · obtain rfl: c = 0 := by simpa using hc
     have HA: Hid (trE (⟨vk,vn,vs⟩,0) = (t,0)) := HB.out 0 rfl
     have HO := Rw.dh (fun t h W => rof_walk t h W)
     clear HB hc
     obtain ⟨m0,m1,m2,m3,m4,m5,m6⟩ := HE4.out.cn
     cases hs: (t == 1)
     · skip
       obtain ⟨n0,n1,n2,n3,n4,n5,n6⟩ := HE4.out.cn
       obtain ⟨b',o',x1,hbo,hb,hx,hc⟩ := (HS.out _ HE4.out.bel).at (j := 1) (by simp)
       obtain ⟨rfl,rfl⟩: b' = b /\ o' = o := by
        have := Option.some.inj hbo
        exact ⟨(congrArg Addr.block this).symm,(congrArg Addr.off this).symm⟩
       obtain rfl: k1 = x1 := by simpa using hx
       have c0: w3.cell? ⟨b',o' + 7,none⟩ = some (.string k1.op) := by simpa using hc 0 _ rfl
       have c1: w3.cell? ⟨b',o' + 7 + 1,none⟩ = some (.int .i64 k1.vk) := by simpa using hc 1 _ rfl
       have c2: w3.cell? ⟨b',o' + 7 + 2,none⟩ = some (.int .i64 k1.vn) := by simpa using hc 2 _ rfl
       have c3: w3.cell? ⟨b',o' + 7 + 3,none⟩ = some (.string k1.vs) := by simpa using hc 3 _ rfl
       have c4: w3.cell? ⟨b',o' + 7 + 4,none⟩ = some (.int .i64 k1.var) := by simpa using hc 4 _ rfl
       have c5: w3.cell? ⟨b',o' + 7 + 5,none⟩ = some (.int .i64 k1.col) := by simpa using hc 5 _ rfl
       have c6: w3.cell? ⟨b',o' + 7 + 6,none⟩ = some (.slice k1.a k1.kids.length k1.c) := by simpa using hc 6 _ rfl
       clear hc hx hb hbo
       go_wp2_with fail
       refine (IH1.out _ HE4.out.bel).mono ?_
       rintro e w5 ⟨rfl,hb⟩
       have HE5 := Rw.dh (HE4.out.on hb)
       clear hb HE4 IH1 c0 c1 c2 c3 c4 c5 c6 n0 n1 n2 n3 n4 n5 n6 m0 m1 m2 m3 m4 m5 m6
       obtain ⟨⟨bk,bn,bs⟩,q2⟩ := q0
       unfold vvV valV
       cases hc: (q2 != 0)
       · obtain rfl: q2 = 0 := by simpa using hc
         clear hc
         have HE6 := Rw.dh (HE5.out.on (Rw.below_alloc _ (.cells #[.int .i64 bk, .int .i64 bn, .string bs] 27)))
         go_wp2_with fail
         refine (HRT.out bk bn bs _).mono ?_
         rintro e w7 ⟨rfl,hb⟩
         have HE7 := Rw.dh (HE6.out.on hb)
         clear hb HE5 HE6
         have HB: Hid (∀ c,truthE bk bn = c -> trE (⟨bk,bn,bs⟩,0) = if c == 0 then (truthT bk bn,0) else (0,c)) := fun c hc => by rw [<- hc]; rfl
         generalize truthT bk bn = u at *
         generalize truthE bk bn = c at *
         obtain ⟨m0,m1,m2,m3,m4,m5,m6⟩ := HE7.out.cn
         cases hc: (c != 0)
         · obtain rfl: c = 0 := by simpa using hc
           have hR: R = (ofVv (tOr t u),0) := by rw [HR.out]; exact both_yes HA.out hs (HB.out 0 rfl)
           subst hR
           clear HR HB
           go_wp2_with (go_at_call 128; refine (HT1.out _ _ _).mono ?_; rintro e w' ⟨rfl,rfl⟩)
           refine (HO.out _ (tOr_range _ _) _).mono ?_
           rintro e w8 ⟨rfl,hb⟩
           have HE8 := Rw.dh (HE7.out.on hb)
           clear hb HE7 m0 m1 m2 m3 m4 m5 m6
           generalize ofVv (tOr t u) = r at *
           obtain ⟨uk,un,us⟩ := r
           unfold vvV valV
           obtain ⟨s0,s1,s2,s3,s4,s5⟩ := cells3 HE8.out.r
           go_wp2
           exact bodyPost_ret (v := .tuple #[.agg #[.int .i64 uk, .int .i64 un, .string us], .int .i64 0]) (by simp [results,Tryz.results88,go_sem,s0,s1,s2]) rfl ⟨rfl,below_set3 (by omega) HE8.out.bel _ _ _⟩
         · have hR: R = (vz,c) := by rw [HR.out]; exact both_no2 HA.out hs ((HB.out c rfl).trans (if_neg (by simpa using hc))) hc
           subst hR
           clear HR HB
           obtain ⟨s0,s1,s2,s3,s4,s5⟩ := cells3 HE7.out.r
           obtain ⟨z0,z1,z2,z3,z4,z5⟩ := cells3 HE7.out.z
           go_wp2
           exact bodyPost_ret (v := .tuple #[.agg #[.int .i64 0, .int .i64 0, .string ⟨#[]⟩], .int .i64 c]) (by simp [results,Tryz.results88,go_sem,s0,s1,s2]) rfl ⟨rfl,below_set3 (by omega) HE7.out.bel _ _ _⟩
       · have hR: R = (vz,q2) := by rw [HR.out]; exact both_no2 HA.out hs (trE_no (a := (⟨bk,bn,bs⟩,q2)) hc) hc
         subst hR
         clear HR
         have HE6 := Rw.dh (HE5.out.on (Rw.below_alloc _ (.cells #[.int .i64 bk, .int .i64 bn, .string bs] 27)))
         clear HE5
         obtain ⟨s0,s1,s2,s3,s4,s5⟩ := cells3 HE6.out.r
         obtain ⟨z0,z1,z2,z3,z4,z5⟩ := cells3 HE6.out.z
         go_wp2
         exact bodyPost_ret (v := .tuple #[.agg #[.int .i64 0, .int .i64 0, .string ⟨#[]⟩], .int .i64 q2]) (by simp [results,Tryz.results88,go_sem,s0,s1,s2]) rfl ⟨rfl,below_set3 (by omega) HE6.out.bel _ _ _⟩
     · have hR: R = (ofVv t,0) := by rw [HR.out]; exact both_set HA.out hs
       subst hR
       clear HR
       go_wp2_with fail
       refine (HO.out _ ht _).mono ?_
       rintro e w5 ⟨rfl,hb⟩
       have HE5 := Rw.dh (HE4.out.on hb)
       clear hb HE4 m0 m1 m2 m3 m4 m5 m6
       generalize ofVv t = r at *
       obtain ⟨uk,un,us⟩ := r
       unfold vvV valV
       obtain ⟨s0,s1,s2,s3,s4,s5⟩ := cells3 HE5.out.r
       go_wp2
       exact bodyPost_ret (v := .tuple #[.agg #[.int .i64 uk, .int .i64 un, .string us], .int .i64 0]) (by simp [results,Tryz.results88,go_sem,s0,s1,s2]) rfl ⟨rfl,below_set3 (by omega) HE5.out.bel _ _ _⟩
   · have hR: R = (vz,c) := by rw [HR.out]; exact both_no ((HB.out c rfl).trans (if_neg (by simpa using hc))) hc
     subst hR
     clear HR HB
     obtain ⟨s0,s1,s2,s3,s4,s5⟩ := cells3 HE4.out.r
     obtain ⟨z0,z1,z2,z3,z4,z5⟩ := cells3 HE4.out.z
     go_wp2
     exact bodyPost_ret (v := .tuple #[.agg #[.int .i64 0, .int .i64 0, .string ⟨#[]⟩], .int .i64 c]) (by simp [results,Tryz.results88,go_sem,s0,s1,s2]) rfl ⟨rfl,below_set3 (by omega) HE4.out.bel _ _ _⟩
 · have hR: R = (vz,r2) := by rw [HR.out]; exact both_no (trE_no (a := (⟨vk,vn,vs⟩,r2)) hc) hc
   subst hR
   clear HR
   have HE3 := Rw.dh (HE2.out.on (Rw.below_alloc _ (.cells #[.int .i64 vk, .int .i64 vn, .string vs] 27)))
   clear HE2
   obtain ⟨s0,s1,s2,s3,s4,s5⟩ := cells3 HE3.out.r
   obtain ⟨z0,z1,z2,z3,z4,z5⟩ := cells3 HE3.out.z
   go_wp2
   exact bodyPost_ret (v := .tuple #[.agg #[.int .i64 0, .int .i64 0, .string ⟨#[]⟩], .int .i64 r2]) (by simp [results,Tryz.results88,go_sem,s0,s1,s2]) rfl ⟨rfl,below_set3 (by omega) HE3.out.bel _ _ _⟩
end
theorem twoE_no {op: ByteArray} {a b: VE} (h: (a.2 != 0) = true): twoE op a b = (vz,a.2) := by
 unfold twoE
 rw [if_neg (by simpa using h)]
theorem twoE_no2 {op: ByteArray} {v: Vv} {b: VE} (h: (b.2 != 0) = true): twoE op (v,0) b = (vz,b.2) := by
 show (if b.2 == 0 then _ else (vz,b.2)) = _
 rw [if_neg (by simpa using h)]
theorem twoV_reck {op: ByteArray} {a b: Vv} (h: (op.toList == [43] || op.toList == [45] || op.toList == [42]) = true): twoV op a b = (reckVv op a b,reckE op a.k a.n a.s b.k b.n b.s) := by
 unfold twoV
 rw [if_pos h,reck_err]
theorem twoV_holds {op: ByteArray} {a b: Vv} (h: (op.toList == [43] || op.toList == [45] || op.toList == [42]) = false): twoV op a b = errOr (ofVv (holdsT op a.k a.n a.s b.k b.n b.s)) (holdsE op a.k a.n a.s b.k b.n b.s) := by
 unfold twoV
 rw [h]; rfl
theorem errOr_no {v: Vv} {c: Int} (h: (c != 0) = true): errOr v c = (vz,c) := by
 unfold errOr
 rw [if_neg (by simpa using h)]
theorem holdsT_range (op: ByteArray) (k n: Int) (s: ByteArray) (k' n': Int) (s': ByteArray): holdsT op k n s k' n' s' = 0 \/ holdsT op k n s k' n' s' = 1 \/ holdsT op k n s k' n' s' = 2 := by
 unfold holdsT
 repeat' split
 all_goals simp
section
variable {w W: World} {n: Nat} {ra: Option Addr} {rs: List RowL} {m rc: Nat} {xo: ByteArray} {xk xn: Int} {xs: ByteArray} {xv xc: Int} {xa: Option Addr} {k xp: Nat} {l: List NL}
theorem reval_reck {k0 k1: NL} (htw: isTwoN xo = true) (qa: (xo.toList == [97,110,100]) = false) (qo: (xo.toList == [111,114]) = false) (hop: xo.toList = [43] \/ xo.toList = [45] \/ xo.toList = [42]) (IH0: REvIH n ra rs rc) (hF: VFit (evN n rs k0).1) (hF1: VFit (evN n rs k1).1) (hR: RowsIn w ra rs) (hS: Rw.SlG nC 7 w xa [k0,k1]) (hI0: InN n w k0) (hd0: deepN n k0 = false) (hI1: InN n w k1) (hd1: deepN n k1 = false) :
 Calls Tryz.prog 88 #[nV (.mk xo xk xn xs xv xc xa xp [k0,k1]), .slice ra rs.length rc] w (RvP (twoE xo (evN n rs k0) (evN n rs k1)) w) := by
 have HT: Hid (∀ W,Calls Tryz.prog 67 #[.string xo] W fun e w' => e = .returned (.bool true) /\ Below W.heap.size W w') := fun W => by
  have h := ntwo_walk xo W
  rw [htw] at h; exact h
 obtain ⟨-, q0,q1,q2,q3,q4⟩ := two_facts htw
 have q0': (xo.toList == [118,97,108,117,101]) = false := q0
 have q1': (xo.toList == [99,111,108,117,109,110]) = false := q1
 have q2': (xo.toList == [110,101,103]) = false := q2
 have q3': (xo.toList == [110,111,116]) = false := q3
 have q4': (xo.toList == [110,117,108,108]) = false := q4
 clear q0 q1 q2 q3 q4 htw
 have IH := Rw.dh (fun W (hb: Below w.heap.size w W) => IH0 k0 W (hI0.on hb) hd0 (hR.on hb))
 have IH1 := Rw.dh (fun W (hb: Below w.heap.size w W) => IH0 k1 W (hI1.on hb) hd1 (hR.on hb))
 have HS := Rw.dh (fun W (hb: Below w.heap.size w W) => hS.below hb)
 have hp: (xo.toList == [43] || xo.toList == [45] || xo.toList == [42]) = true := by rcases hop with h | h | h <;> rw [h] <;> rfl
 have HP := Rw.dh hp
 have hcs: (xo.toList == [43]) = true \/ ((xo.toList == [43]) = false /\ (xo.toList == [45]) = true) \/ ((xo.toList == [43]) = false /\ (xo.toList == [45]) = false /\ (xo.toList == [42]) = true) := by
  rcases hop with h | h | h <;> rw [h] <;> simp
 clear hop hp
 have fin: ∀ (P: Prop),((xo.toList == [43]) = true -> P) -> ((xo.toList == [43]) = false -> (xo.toList == [45]) = true -> P) -> ((xo.toList == [43]) = false -> (xo.toList == [45]) = false -> (xo.toList == [42]) = true -> P) -> P := fun P f1 f2 f3 => by
  rcases hcs with h | ⟨h,h'⟩ | ⟨h,h',h''⟩
  · exact f1 h
  · exact f2 h h'
  · exact f3 h h' h''
 clear hcs
 have HFin := Rw.dh fin
 clear fin
 obtain ⟨R,hRR⟩: ∃ R,R = twoE xo (evN n rs k0) (evN n rs k1) := ⟨_,rfl⟩
 rw [<- hRR]
 have HR := Rw.dh hRR
 have HF := Rw.dh hF
 have HF1 := Rw.dh hF1
 unfold nV
 unfold nV at IH IH1
 dsimp only [NL.op,NL.vk,NL.vn,NL.vs,NL.var,NL.col,NL.a,NL.c,NL.kids,List.length_cons,List.length_nil]
 clear IH0 hR hS hI0 hd0 hI1 hd1 hRR hF hF1
 generalize evN n rs k0 = r0 at *
 generalize evN n rs k1 = q0 at *
 go_enter Tryz.func88,Tryz.ntmps88
 go_wp2_with fail
 refine (HT.out _).mono ?_
 rintro e w1 ⟨rfl,hb⟩
 have HE := Rw.dh (Rbx.on (xo := xo) (xk := xk) (xn := xn) (xs := xs) (xv := xv) (xc := xc) (xa := xa) (k := 2) (xp := xp) Rbx.new0 hb)
 clear hb HT
 obtain ⟨n0,n1,n2,n3,n4,n5,n6⟩ := HE.out.cn
 obtain ⟨b,o,x0,rfl,hb,hx,hc⟩ := (HS.out _ HE.out.bel).at (j := 0) (by simp)
 obtain rfl: k0 = x0 := by simpa using hx
 have c0: w1.cell? ⟨b,o,none⟩ = some (.string k0.op) := by simpa using hc 0 _ rfl
 have c1: w1.cell? ⟨b,o + 1,none⟩ = some (.int .i64 k0.vk) := by simpa using hc 1 _ rfl
 have c2: w1.cell? ⟨b,o + 2,none⟩ = some (.int .i64 k0.vn) := by simpa using hc 2 _ rfl
 have c3: w1.cell? ⟨b,o + 3,none⟩ = some (.string k0.vs) := by simpa using hc 3 _ rfl
 have c4: w1.cell? ⟨b,o + 4,none⟩ = some (.int .i64 k0.var) := by simpa using hc 4 _ rfl
 have c5: w1.cell? ⟨b,o + 5,none⟩ = some (.int .i64 k0.col) := by simpa using hc 5 _ rfl
 have c6: w1.cell? ⟨b,o + 6,none⟩ = some (.slice k0.a k0.kids.length k0.c) := by simpa using hc 6 _ rfl
 clear hc hx hb
 go_wp2_with fail
 refine (IH.out _ HE.out.bel).mono ?_
 rintro e w2 ⟨rfl,hb⟩
 have HE2 := Rw.dh (HE.out.on hb)
 clear hb HE IH c0 c1 c2 c3 c4 c5 c6 n0 n1 n2 n3 n4 n5 n6
 obtain ⟨⟨vk,vn,vs⟩,r2⟩ := r0
 unfold vvV valV
 cases hc: (r2 != 0)
 · obtain rfl: r2 = 0 := by simpa using hc
   clear hc
   have HE3 := Rw.dh (HE2.out.on (Rw.below_alloc _ (.cells #[.int .i64 vk, .int .i64 vn, .string vs] 27)))
   have HA := Rw.dh (Rw.heap_new w2 (.cells #[.int .i64 vk, .int .i64 vn, .string vs] 27))
   clear HE2
   obtain ⟨n0,n1,n2,n3,n4,n5,n6⟩ := HE3.out.cn
   obtain ⟨b',o',x1,hbo,hb,hx,hc⟩ := (HS.out _ HE3.out.bel).at (j := 1) (by simp)
   obtain ⟨rfl,rfl⟩: b' = b /\ o' = o := by
    have := Option.some.inj hbo
    exact ⟨(congrArg Addr.block this).symm,(congrArg Addr.off this).symm⟩
   obtain rfl: k1 = x1 := by simpa using hx
   have c0: (w2.alloc (.cells #[.int .i64 vk, .int .i64 vn, .string vs] 27)).cell? ⟨b',o' + 7,none⟩ = some (.string k1.op) := by simpa using hc 0 _ rfl
   have c1: (w2.alloc (.cells #[.int .i64 vk, .int .i64 vn, .string vs] 27)).cell? ⟨b',o' + 7 + 1,none⟩ = some (.int .i64 k1.vk) := by simpa using hc 1 _ rfl
   have c2: (w2.alloc (.cells #[.int .i64 vk, .int .i64 vn, .string vs] 27)).cell? ⟨b',o' + 7 + 2,none⟩ = some (.int .i64 k1.vn) := by simpa using hc 2 _ rfl
   have c3: (w2.alloc (.cells #[.int .i64 vk, .int .i64 vn, .string vs] 27)).cell? ⟨b',o' + 7 + 3,none⟩ = some (.string k1.vs) := by simpa using hc 3 _ rfl
   have c4: (w2.alloc (.cells #[.int .i64 vk, .int .i64 vn, .string vs] 27)).cell? ⟨b',o' + 7 + 4,none⟩ = some (.int .i64 k1.var) := by simpa using hc 4 _ rfl
   have c5: (w2.alloc (.cells #[.int .i64 vk, .int .i64 vn, .string vs] 27)).cell? ⟨b',o' + 7 + 5,none⟩ = some (.int .i64 k1.col) := by simpa using hc 5 _ rfl
   have c6: (w2.alloc (.cells #[.int .i64 vk, .int .i64 vn, .string vs] 27)).cell? ⟨b',o' + 7 + 6,none⟩ = some (.slice k1.a k1.kids.length k1.c) := by simpa using hc 6 _ rfl
   clear hc hx hb hbo
   go_wp2_with fail
   refine (IH1.out _ HE3.out.bel).mono ?_
   rintro e w5 ⟨rfl,hb⟩
   have HE5 := Rw.dh (HE3.out.on hb)
   have HA5 := Rw.dh ((hb.block _ (Array.getElem?_eq_some_iff.1 HA.out).1).trans HA.out)
   clear hb HE3 HA IH1 c0 c1 c2 c3 c4 c5 c6 n0 n1 n2 n3 n4 n5 n6
   obtain ⟨⟨bk,bn,bs⟩,q2⟩ := q0
   unfold vvV valV
   cases hc: (q2 != 0)
   · obtain rfl: q2 = 0 := by simpa using hc
     clear hc
     have hR: R = twoV xo ⟨vk,vn,vs⟩ ⟨bk,bn,bs⟩ := HR.out
     clear HR
     have HE6 := Rw.dh (HE5.out.on (Rw.below_alloc _ (.cells #[.int .i64 bk, .int .i64 bn, .string bs] 27)))
     have ha6 := (Below.heap_alloc w5 (.cells #[.int .i64 bk, .int .i64 bn, .string bs] 27) w2.heap.size (Array.getElem?_eq_some_iff.1 HA5.out).1).trans HA5.out
     have HB6 := Rw.dh (Rw.heap_new w5 (.cells #[.int .i64 bk, .int .i64 bn, .string bs] 27))
     obtain ⟨m0,m1,m2,m3,m4,m5,m6⟩ := HE6.out.cn
     obtain ⟨a0,a1,a2,a3,a4,a5⟩ := cells3 ha6
     clear ha6 HE5 HA5
     rw [twoV_reck HP.out] at hR
     have HRK: Hid (∀ W,Calls Tryz.prog 124 #[.string xo, .agg #[.int .i64 vk, .int .i64 vn, .string vs], .agg #[.int .i64 bk, .int .i64 bn, .string bs]] W fun e w' => e = .returned (.tuple #[vvV R.1, .int .i64 R.2]) /\ Below W.heap.size W w') := fun W => by
      have h := rreckon_walk xo vk vn vs bk bn bs HF.out.2.1 HF1.out.2.1 W
      rw [hR, <- reckVv_eq xo ⟨vk,vn,vs⟩ ⟨bk,bn,bs⟩]
      exact h
     clear hR HF HF1 HP
     obtain ⟨⟨uk,un,us⟩,c⟩ := R
     unfold vvV valV at HRK
     dsimp only at HRK
     apply HFin.out
     all_goals
      intros
      go_wp2_with fail
      refine (HRK.out _).mono ?_
      rintro e w7 ⟨rfl,hb⟩
      have HE7 := Rw.dh (HE6.out.on hb)
      clear hb HE6 HRK m0 m1 m2 m3 m4 m5 m6 a0 a1 a2 a3 a4 a5
      obtain ⟨s0,s1,s2,s3,s4,s5⟩ := cells3 HE7.out.r
      go_wp2
      exact bodyPost_ret (v := .tuple #[.agg #[.int .i64 uk, .int .i64 un, .string us], .int .i64 c]) (by simp [results,Tryz.results88,go_sem,s0,s1,s2]) rfl ⟨rfl,below_set3 (by omega) HE7.out.bel _ _ _⟩
   · have hR: R = (vz,q2) := by rw [HR.out]; exact twoE_no2 (b := (⟨bk,bn,bs⟩,q2)) hc
     subst hR
     clear HR
     have HE6 := Rw.dh (HE5.out.on (Rw.below_alloc _ (.cells #[.int .i64 bk, .int .i64 bn, .string bs] 27)))
     clear HE5
     obtain ⟨s0,s1,s2,s3,s4,s5⟩ := cells3 HE6.out.r
     obtain ⟨z0,z1,z2,z3,z4,z5⟩ := cells3 HE6.out.z
     go_wp2
     exact bodyPost_ret (v := .tuple #[.agg #[.int .i64 0, .int .i64 0, .string ⟨#[]⟩], .int .i64 q2]) (by simp [results,Tryz.results88,go_sem,s0,s1,s2]) rfl ⟨rfl,below_set3 (by omega) HE6.out.bel _ _ _⟩
 · have hR: R = (vz,r2) := by rw [HR.out]; exact twoE_no (a := (⟨vk,vn,vs⟩,r2)) hc
   subst hR
   clear HR
   have HE3 := Rw.dh (HE2.out.on (Rw.below_alloc _ (.cells #[.int .i64 vk, .int .i64 vn, .string vs] 27)))
   clear HE2
   obtain ⟨s0,s1,s2,s3,s4,s5⟩ := cells3 HE3.out.r
   obtain ⟨z0,z1,z2,z3,z4,z5⟩ := cells3 HE3.out.z
   go_wp2
   exact bodyPost_ret (v := .tuple #[.agg #[.int .i64 0, .int .i64 0, .string ⟨#[]⟩], .int .i64 r2]) (by simp [results,Tryz.results88,go_sem,s0,s1,s2]) rfl ⟨rfl,below_set3 (by omega) HE3.out.bel _ _ _⟩
theorem reval_holds {k0 k1: NL} (htw: isTwoN xo = true) (qa: (xo.toList == [97,110,100]) = false) (qo: (xo.toList == [111,114]) = false) (p1: (xo.toList == [43]) = false) (p2: (xo.toList == [45]) = false) (p3: (xo.toList == [42]) = false) (IH0: REvIH n ra rs rc) (hF: VFit (evN n rs k0).1) (hF1: VFit (evN n rs k1).1) (hR: RowsIn w ra rs) (hS: Rw.SlG nC 7 w xa [k0,k1]) (hI0: InN n w k0) (hd0: deepN n k0 = false) (hI1: InN n w k1) (hd1: deepN n k1 = false) :
 Calls Tryz.prog 88 #[nV (.mk xo xk xn xs xv xc xa xp [k0,k1]), .slice ra rs.length rc] w (RvP (twoE xo (evN n rs k0) (evN n rs k1)) w) := by
 have HT: Hid (∀ W,Calls Tryz.prog 67 #[.string xo] W fun e w' => e = .returned (.bool true) /\ Below W.heap.size W w') := fun W => by
  have h := ntwo_walk xo W
  rw [htw] at h; exact h
 obtain ⟨-, q0,q1,q2,q3,q4⟩ := two_facts htw
 have q0': (xo.toList == [118,97,108,117,101]) = false := q0
 have q1': (xo.toList == [99,111,108,117,109,110]) = false := q1
 have q2': (xo.toList == [110,101,103]) = false := q2
 have q3': (xo.toList == [110,111,116]) = false := q3
 have q4': (xo.toList == [110,117,108,108]) = false := q4
 clear q0 q1 q2 q3 q4 htw
 have IH := Rw.dh (fun W (hb: Below w.heap.size w W) => IH0 k0 W (hI0.on hb) hd0 (hR.on hb))
 have IH1 := Rw.dh (fun W (hb: Below w.heap.size w W) => IH0 k1 W (hI1.on hb) hd1 (hR.on hb))
 have HS := Rw.dh (fun W (hb: Below w.heap.size w W) => hS.below hb)
 have HP: Hid ((xo.toList == [43] || xo.toList == [45] || xo.toList == [42]) = false) := by rw [Hid,p1,p2,p3]; rfl
 obtain ⟨R,hRR⟩: ∃ R,R = twoE xo (evN n rs k0) (evN n rs k1) := ⟨_,rfl⟩
 rw [<- hRR]
 have HR := Rw.dh hRR
 have HF := Rw.dh hF
 have HF1 := Rw.dh hF1
 unfold nV
 unfold nV at IH IH1
 dsimp only [NL.op,NL.vk,NL.vn,NL.vs,NL.var,NL.col,NL.a,NL.c,NL.kids,List.length_cons,List.length_nil]
 clear IH0 hR hS hI0 hd0 hI1 hd1 hRR hF hF1
 generalize evN n rs k0 = r0 at *
 generalize evN n rs k1 = q0 at *
 go_enter Tryz.func88,Tryz.ntmps88
 go_wp2_with fail
 refine (HT.out _).mono ?_
 rintro e w1 ⟨rfl,hb⟩
 have HE := Rw.dh (Rbx.on (xo := xo) (xk := xk) (xn := xn) (xs := xs) (xv := xv) (xc := xc) (xa := xa) (k := 2) (xp := xp) Rbx.new0 hb)
 clear hb HT
 obtain ⟨n0,n1,n2,n3,n4,n5,n6⟩ := HE.out.cn
 obtain ⟨b,o,x0,rfl,hb,hx,hc⟩ := (HS.out _ HE.out.bel).at (j := 0) (by simp)
 obtain rfl: k0 = x0 := by simpa using hx
 have c0: w1.cell? ⟨b,o,none⟩ = some (.string k0.op) := by simpa using hc 0 _ rfl
 have c1: w1.cell? ⟨b,o + 1,none⟩ = some (.int .i64 k0.vk) := by simpa using hc 1 _ rfl
 have c2: w1.cell? ⟨b,o + 2,none⟩ = some (.int .i64 k0.vn) := by simpa using hc 2 _ rfl
 have c3: w1.cell? ⟨b,o + 3,none⟩ = some (.string k0.vs) := by simpa using hc 3 _ rfl
 have c4: w1.cell? ⟨b,o + 4,none⟩ = some (.int .i64 k0.var) := by simpa using hc 4 _ rfl
 have c5: w1.cell? ⟨b,o + 5,none⟩ = some (.int .i64 k0.col) := by simpa using hc 5 _ rfl
 have c6: w1.cell? ⟨b,o + 6,none⟩ = some (.slice k0.a k0.kids.length k0.c) := by simpa using hc 6 _ rfl
 clear hc hx hb
 go_wp2_with fail
 refine (IH.out _ HE.out.bel).mono ?_
 rintro e w2 ⟨rfl,hb⟩
 have HE2 := Rw.dh (HE.out.on hb)
 clear hb HE IH c0 c1 c2 c3 c4 c5 c6 n0 n1 n2 n3 n4 n5 n6
 obtain ⟨⟨vk,vn,vs⟩,r2⟩ := r0
 unfold vvV valV
 cases hc: (r2 != 0)
 · obtain rfl: r2 = 0 := by simpa using hc
   clear hc
   have HE3 := Rw.dh (HE2.out.on (Rw.below_alloc _ (.cells #[.int .i64 vk, .int .i64 vn, .string vs] 27)))
   have HA := Rw.dh (Rw.heap_new w2 (.cells #[.int .i64 vk, .int .i64 vn, .string vs] 27))
   clear HE2
   obtain ⟨n0,n1,n2,n3,n4,n5,n6⟩ := HE3.out.cn
   obtain ⟨b',o',x1,hbo,hb,hx,hc⟩ := (HS.out _ HE3.out.bel).at (j := 1) (by simp)
   obtain ⟨rfl,rfl⟩: b' = b /\ o' = o := by
    have := Option.some.inj hbo
    exact ⟨(congrArg Addr.block this).symm,(congrArg Addr.off this).symm⟩
   obtain rfl: k1 = x1 := by simpa using hx
   have c0: (w2.alloc (.cells #[.int .i64 vk, .int .i64 vn, .string vs] 27)).cell? ⟨b',o' + 7,none⟩ = some (.string k1.op) := by simpa using hc 0 _ rfl
   have c1: (w2.alloc (.cells #[.int .i64 vk, .int .i64 vn, .string vs] 27)).cell? ⟨b',o' + 7 + 1,none⟩ = some (.int .i64 k1.vk) := by simpa using hc 1 _ rfl
   have c2: (w2.alloc (.cells #[.int .i64 vk, .int .i64 vn, .string vs] 27)).cell? ⟨b',o' + 7 + 2,none⟩ = some (.int .i64 k1.vn) := by simpa using hc 2 _ rfl
   have c3: (w2.alloc (.cells #[.int .i64 vk, .int .i64 vn, .string vs] 27)).cell? ⟨b',o' + 7 + 3,none⟩ = some (.string k1.vs) := by simpa using hc 3 _ rfl
   have c4: (w2.alloc (.cells #[.int .i64 vk, .int .i64 vn, .string vs] 27)).cell? ⟨b',o' + 7 + 4,none⟩ = some (.int .i64 k1.var) := by simpa using hc 4 _ rfl
   have c5: (w2.alloc (.cells #[.int .i64 vk, .int .i64 vn, .string vs] 27)).cell? ⟨b',o' + 7 + 5,none⟩ = some (.int .i64 k1.col) := by simpa using hc 5 _ rfl
   have c6: (w2.alloc (.cells #[.int .i64 vk, .int .i64 vn, .string vs] 27)).cell? ⟨b',o' + 7 + 6,none⟩ = some (.slice k1.a k1.kids.length k1.c) := by simpa using hc 6 _ rfl
   clear hc hx hb hbo
   go_wp2_with fail
   refine (IH1.out _ HE3.out.bel).mono ?_
   rintro e w5 ⟨rfl,hb⟩
   have HE5 := Rw.dh (HE3.out.on hb)
   have HA5 := Rw.dh ((hb.block _ (Array.getElem?_eq_some_iff.1 HA.out).1).trans HA.out)
   clear hb HE3 HA IH1 c0 c1 c2 c3 c4 c5 c6 n0 n1 n2 n3 n4 n5 n6
   obtain ⟨⟨bk,bn,bs⟩,q2⟩ := q0
   unfold vvV valV
   cases hc: (q2 != 0)
   · obtain rfl: q2 = 0 := by simpa using hc
     clear hc
     have hR: R = twoV xo ⟨vk,vn,vs⟩ ⟨bk,bn,bs⟩ := HR.out
     clear HR
     have HE6 := Rw.dh (HE5.out.on (Rw.below_alloc _ (.cells #[.int .i64 bk, .int .i64 bn, .string bs] 27)))
     have ha6 := (Below.heap_alloc w5 (.cells #[.int .i64 bk, .int .i64 bn, .string bs] 27) w2.heap.size (Array.getElem?_eq_some_iff.1 HA5.out).1).trans HA5.out
     have HB6 := Rw.dh (Rw.heap_new w5 (.cells #[.int .i64 bk, .int .i64 bn, .string bs] 27))
     obtain ⟨m0,m1,m2,m3,m4,m5,m6⟩ := HE6.out.cn
     obtain ⟨a0,a1,a2,a3,a4,a5⟩ := cells3 ha6
     clear ha6 HE5 HA5
     rw [twoV_holds HP.out] at hR
     have HRK: Hid (∀ W,Calls Tryz.prog 129 #[.string xo, .agg #[.int .i64 vk, .int .i64 vn, .string vs], .agg #[.int .i64 bk, .int .i64 bn, .string bs]] W fun e w' => e = .returned (.tuple #[.int .i64 (holdsT xo vk vn vs bk bn bs), .int .i64 (holdsE xo vk vn vs bk bn bs)]) /\ Below W.heap.size W w') := fun W => rholds_walk xo vk vn vs bk bn bs W
     have ht := holdsT_range xo vk vn vs bk bn bs
     have HR1 := Rw.dh hR
     clear hR HF HF1 HP
     dsimp only at HR1
     generalize holdsT xo vk vn vs bk bn bs = t at *
     generalize holdsE xo vk vn vs bk bn bs = c at *
     go_wp2_with fail
     refine (HRK.out _).mono ?_
     rintro e w7 ⟨rfl,hb⟩
     have HE7 := Rw.dh (HE6.out.on hb)
     clear hb HE6 HRK m0 m1 m2 m3 m4 m5 m6 a0 a1 a2 a3 a4 a5
     cases hc: (c != 0)
     · obtain rfl: c = 0 := by simpa using hc
       have hR: R = (ofVv t,0) := HR1.out
       subst hR
       clear HR1
       have HO := Rw.dh (fun W => rof_walk t ht W)
       go_wp2_with fail
       refine (HO.out _).mono ?_
       rintro e w8 ⟨rfl,hb⟩
       have HE8 := Rw.dh (HE7.out.on hb)
       clear hb HE7 HO
       generalize ofVv t = r at *
       obtain ⟨uk,un,us⟩ := r
       unfold vvV valV
       obtain ⟨s0,s1,s2,s3,s4,s5⟩ := cells3 HE8.out.r
       go_wp2
       exact bodyPost_ret (v := .tuple #[.agg #[.int .i64 uk, .int .i64 un, .string us], .int .i64 0]) (by simp [results,Tryz.results88,go_sem,s0,s1,s2]) rfl ⟨rfl,below_set3 (by omega) HE8.out.bel _ _ _⟩
     · have hR: R = (vz,c) := by rw [HR1.out]; exact errOr_no hc
       subst hR
       clear HR1
       obtain ⟨s0,s1,s2,s3,s4,s5⟩ := cells3 HE7.out.r
       obtain ⟨z0,z1,z2,z3,z4,z5⟩ := cells3 HE7.out.z
       go_wp2
       exact bodyPost_ret (v := .tuple #[.agg #[.int .i64 0, .int .i64 0, .string ⟨#[]⟩], .int .i64 c]) (by simp [results,Tryz.results88,go_sem,s0,s1,s2]) rfl ⟨rfl,below_set3 (by omega) HE7.out.bel _ _ _⟩
   · have hR: R = (vz,q2) := by rw [HR.out]; exact twoE_no2 (b := (⟨bk,bn,bs⟩,q2)) hc
     subst hR
     clear HR
     have HE6 := Rw.dh (HE5.out.on (Rw.below_alloc _ (.cells #[.int .i64 bk, .int .i64 bn, .string bs] 27)))
     clear HE5
     obtain ⟨s0,s1,s2,s3,s4,s5⟩ := cells3 HE6.out.r
     obtain ⟨z0,z1,z2,z3,z4,z5⟩ := cells3 HE6.out.z
     go_wp2
     exact bodyPost_ret (v := .tuple #[.agg #[.int .i64 0, .int .i64 0, .string ⟨#[]⟩], .int .i64 q2]) (by simp [results,Tryz.results88,go_sem,s0,s1,s2]) rfl ⟨rfl,below_set3 (by omega) HE6.out.bel _ _ _⟩
 · have hR: R = (vz,r2) := by rw [HR.out]; exact twoE_no (a := (⟨vk,vn,vs⟩,r2)) hc
   subst hR
   clear HR
   have HE3 := Rw.dh (HE2.out.on (Rw.below_alloc _ (.cells #[.int .i64 vk, .int .i64 vn, .string vs] 27)))
   clear HE2
   obtain ⟨s0,s1,s2,s3,s4,s5⟩ := cells3 HE3.out.r
   obtain ⟨z0,z1,z2,z3,z4,z5⟩ := cells3 HE3.out.z
   go_wp2
   exact bodyPost_ret (v := .tuple #[.agg #[.int .i64 0, .int .i64 0, .string ⟨#[]⟩], .int .i64 r2]) (by simp [results,Tryz.results88,go_sem,s0,s1,s2]) rfl ⟨rfl,below_set3 (by omega) HE3.out.bel _ _ _⟩
end
end Go.Proofs.YteibhbnlcpejpaaGreat
