import Derived.Test.YteibhbnlcpejpaaGreatMAW
set_option maxRecDepth 100000
set_option maxHeartbeats 4000000
namespace Go.Proofs.YteibhbnlcpejpaaGreat
open Go.RowKit
section
variable {w W: World} {n: Nat} {ra: Option Addr} {rs: List RowL} {m rc: Nat} {xo: ByteArray} {xk xn: Int} {xs: ByteArray} {xv xc: Int} {xa: Option Addr} {k xp: Nat} {l: List NL}
theorem Rbx.new0: Rbx w (((w.alloc (.cells #[.string xo, .int .i64 xk, .int .i64 xn, .string xs, .int .i64 xv, .int .i64 xc, .slice xa k xp] 56)).alloc (.cells #[.int .i64 0, .int .i64 0, .string ⟨#[]⟩] 27)).alloc (.cells #[.int .i64 0, .int .i64 0, .string ⟨#[]⟩] 27)) xo xk xn xs xv xc xa k xp :=
 ⟨below_three w _ _ _,
  ((Below.heap_alloc _ _ _ (by simp; omega)).trans (Below.heap_alloc _ _ _ (by simp))).trans (Rw.heap_new w _),
  (Below.heap_alloc _ _ _ (by simp)).trans (heap_two w _ _),heap_three w _ _ _⟩
theorem Rbx.drewN (h: Rbx w W xo xk xn xs xv xc xa k xp) (nq: Nat): Rbx w (W.drewN nq) xo xk xn xs xv xc xa k xp := h.on (below_drewN (Below.refl _ _) nq)
theorem reval_col_clo {b o: Nat} {r: RowL} (hv0: 0 <= xv) (hv1: xv < (rs.length: Int)) (hb: b < w.heap.size) (c0: w.cell? ⟨b,o + xv.toNat,none⟩ = some (.slice r.a r.l.length r.c)) (h2: xc < 0) (hl: l = []) (ho: xo.toList = nCOLUMN) :
 Calls Tryz.prog 88 #[nV (.mk xo xk xn xs xv xc xa xp l), .slice (some ⟨b,o,none⟩) rs.length rc] w (RvP (vz,15) w) := by
 have k1: (xo.toList == [118,97,108,117,101]) = false := by rw [ho]; rfl
 have k2: (xo.toList == [99,111,108,117,109,110]) = true := by rw [ho]; rfl
 subst hl
 unfold nV
 dsimp only [NL.op,NL.vk,NL.vn,NL.vs,NL.var,NL.col,NL.a,NL.c,NL.kids,List.length_nil]
 clear ho
 have g0: decide (xv < 0) = false := decide_eq_false (by omega)
 have g1: decide ((rs.length: Int) <= xv) = false := decide_eq_false (by omega)
 have g2: decide (xv ≥ (rs.length: Int)) = false := decide_eq_false (by omega)
 have g3: decide (xc < 0) = true := decide_eq_true (by omega)
 generalize rs.length = N at *
 generalize r.l.length = M at *
 go_enter Tryz.func88,Tryz.ntmps88
 go_wp2_with fail
 refine Rw.to_letter (F := fun W => Rbx w W xo xk xn xs xv xc xa 0 xp) Rbx.new0 ?_
 intro W hE
 have HE := Rw.dh hE
 obtain ⟨n0,n1,n2,n3,n4,n5,n6⟩ := hE.cn
 have e0: W.cell? ⟨b,o + xv.toNat,none⟩ = some (.slice r.a M r.c) := by rw [hE.bel.cell hb]; assumption
 clear hE
 go_quiet (fail)
 rename_i nq
 refine Rw.to_letter (F := fun W => Rbx w W xo xk xn xs xv xc xa 0 xp) (HE.out.drewN _) ?_
 clear HE
 intro V hE
 skip
 have HE := Rw.dh hE
 obtain ⟨m0,m1,m2,m3,m4,m5,m6⟩ := hE.cn
 obtain ⟨r0,r1,r2,r3,r4,r5⟩ := cells3 hE.r
 obtain ⟨z0,z1,z2,z3,z4,z5⟩ := cells3 hE.z
 clear hE
 go_wp2
 exact bodyPost_ret (v := .tuple #[.agg #[.int .i64 0, .int .i64 0, .string ⟨#[]⟩], .int .i64 15]) (by simp [results,Tryz.results88,go_sem,r0,r1,r2]) rfl ⟨rfl,below_set3 (by omega) HE.out.bel _ _ _⟩
theorem reval_col_chi {b o: Nat} {r: RowL} (hv0: 0 <= xv) (hv1: xv < (rs.length: Int)) (hb: b < w.heap.size) (c0: w.cell? ⟨b,o + xv.toNat,none⟩ = some (.slice r.a r.l.length r.c)) (h2: 0 <= xc) (h3: (r.l.length: Int) <= xc) (hl: l = []) (ho: xo.toList = nCOLUMN) :
 Calls Tryz.prog 88 #[nV (.mk xo xk xn xs xv xc xa xp l), .slice (some ⟨b,o,none⟩) rs.length rc] w (RvP (vz,15) w) := by
 have k1: (xo.toList == [118,97,108,117,101]) = false := by rw [ho]; rfl
 have k2: (xo.toList == [99,111,108,117,109,110]) = true := by rw [ho]; rfl
 subst hl
 unfold nV
 dsimp only [NL.op,NL.vk,NL.vn,NL.vs,NL.var,NL.col,NL.a,NL.c,NL.kids,List.length_nil]
 clear ho
 have g0: decide (xv < 0) = false := decide_eq_false (by omega)
 have g1: decide ((rs.length: Int) <= xv) = false := decide_eq_false (by omega)
 have g2: decide (xv ≥ (rs.length: Int)) = false := decide_eq_false (by omega)
 have g3: decide (xc < 0) = false := decide_eq_false (by omega)
 have g4: decide ((r.l.length: Int) <= xc) = true := decide_eq_true (by omega)
 have g5: decide (xc ≥ (r.l.length: Int)) = true := decide_eq_true (by omega)
 generalize rs.length = N at *
 generalize r.l.length = M at *
 go_enter Tryz.func88,Tryz.ntmps88
 go_wp2_with fail
 refine Rw.to_letter (F := fun W => Rbx w W xo xk xn xs xv xc xa 0 xp) Rbx.new0 ?_
 intro W hE
 have HE := Rw.dh hE
 obtain ⟨n0,n1,n2,n3,n4,n5,n6⟩ := hE.cn
 have e0: W.cell? ⟨b,o + xv.toNat,none⟩ = some (.slice r.a M r.c) := by rw [hE.bel.cell hb]; assumption
 clear hE
 go_quiet (fail)
 rename_i nq
 refine Rw.to_letter (F := fun W => Rbx w W xo xk xn xs xv xc xa 0 xp) (HE.out.drewN _) ?_
 clear HE
 intro V hE
 skip
 have HE := Rw.dh hE
 obtain ⟨m0,m1,m2,m3,m4,m5,m6⟩ := hE.cn
 obtain ⟨r0,r1,r2,r3,r4,r5⟩ := cells3 hE.r
 obtain ⟨z0,z1,z2,z3,z4,z5⟩ := cells3 hE.z
 clear hE
 go_wp2
 exact bodyPost_ret (v := .tuple #[.agg #[.int .i64 0, .int .i64 0, .string ⟨#[]⟩], .int .i64 15]) (by simp [results,Tryz.results88,go_sem,r0,r1,r2]) rfl ⟨rfl,below_set3 (by omega) HE.out.bel _ _ _⟩
end
section
variable {w W: World} {n: Nat} {ra: Option Addr} {rs: List RowL} {m rc: Nat} {xo: ByteArray} {xk xn: Int} {xs: ByteArray} {xv xc: Int} {xa: Option Addr} {k xp: Nat} {l: List NL}
theorem kidsN_cases (s: ByteArray): s.toList = nVALUE \/ s.toList = nCOLUMN \/ s.toList = nNEG \/ s.toList = nNOT \/ s.toList = nNULL \/ isTwoN s = true \/ (kidsN s = -1 /\ (s.toList == nVALUE) = false /\ (s.toList == nCOLUMN) = false /\ (s.toList == nNEG) = false /\ (s.toList == nNOT) = false /\ (s.toList == nNULL) = false /\ isTwoN s = false) := by
 by_cases h1: s.toList = nVALUE
 · exact Or.inl h1
 by_cases h2: s.toList = nCOLUMN
 · exact Or.inr (Or.inl h2)
 by_cases h3: s.toList = nNEG
 · exact Or.inr (Or.inr (Or.inl h3))
 by_cases h4: s.toList = nNOT
 · exact Or.inr (Or.inr (Or.inr (Or.inl h4)))
 by_cases h5: s.toList = nNULL
 · exact Or.inr (Or.inr (Or.inr (Or.inr (Or.inl h5))))
 cases h6: isTwoN s
 · refine Or.inr (Or.inr (Or.inr (Or.inr (Or.inr (Or.inr ⟨?_,beq_eq_false_iff_ne.2 h1,beq_eq_false_iff_ne.2 h2,beq_eq_false_iff_ne.2 h3,beq_eq_false_iff_ne.2 h4,beq_eq_false_iff_ne.2 h5,rfl⟩)))))
   unfold kidsN
   unfold isTwoN at h6
   rw [beq_eq_false_iff_ne.2 h1,beq_eq_false_iff_ne.2 h2,h6]
   have h7: nops1.contains s.toList = false := by
    simp only [nops1,List.contains_cons,List.contains_nil,beq_eq_false_iff_ne.2 h3,beq_eq_false_iff_ne.2 h4,beq_eq_false_iff_ne.2 h5,Bool.or_false]
   rw [h7]; rfl
 · exact Or.inr (Or.inr (Or.inr (Or.inr (Or.inr (Or.inl rfl)))))
theorem two_facts {s: ByteArray} (h: isTwoN s = true): kidsN s = 2 /\ (s.toList == nVALUE) = false /\ (s.toList == nCOLUMN) = false /\ (s.toList == nNEG) = false /\ (s.toList == nNOT) = false /\ (s.toList == nNULL) = false := by
 unfold isTwoN at h
 unfold kidsN
 have hm: s.toList ∈ nops2 := by simpa using h
 simp only [nops2,List.mem_cons,List.not_mem_nil,or_false] at hm
 rcases hm with e | e | e | e | e | e | e | e | e | e | e <;> rw [e] <;> exact ⟨by decide,by decide,by decide,by decide,by decide,by decide⟩
theorem len_ne {L: Nat} {K: Int} (h: ((L: Int) == K) = false) {c: Int} (hc: K = c): ((L: Int) != c) = true := by subst hc; simpa [bne] using h
theorem reval_bad (h: ((l.length: Int) == kidsN xo) = false) :
 Calls Tryz.prog 88 #[nV (.mk xo xk xn xs xv xc xa xp l), .slice ra rs.length rc] w (RvP (vz,15) w) := by
 have HT := Rw.dh (fun W => ntwo_walk xo W)
 unfold nV
 dsimp only [NL.op,NL.vk,NL.vn,NL.vs,NL.var,NL.col,NL.a,NL.c,NL.kids]
 generalize l.length = L at *
 generalize rs.length = N at *
 have fin: ∀ P: Prop,
  ((xo.toList == [118,97,108,117,101]) = true -> ((L: Int) == 0) = false -> (xo.toList == [99,111,108,117,109,110]) = false -> (xo.toList == [110,101,103]) = false -> (xo.toList == [110,111,116]) = false -> (xo.toList == [110,117,108,108]) = false -> isTwoN xo = false -> P) ->
  ((xo.toList == [118,97,108,117,101]) = false -> ((L: Int) == 0) = false -> (xo.toList == [99,111,108,117,109,110]) = true -> (xo.toList == [110,101,103]) = false -> (xo.toList == [110,111,116]) = false -> (xo.toList == [110,117,108,108]) = false -> isTwoN xo = false -> P) ->
  ((xo.toList == [118,97,108,117,101]) = false -> ((L: Int) != 1) = true -> (xo.toList == [99,111,108,117,109,110]) = false -> (xo.toList == [110,101,103]) = true -> (xo.toList == [110,111,116]) = false -> (xo.toList == [110,117,108,108]) = false -> isTwoN xo = false -> P) ->
  ((xo.toList == [118,97,108,117,101]) = false -> ((L: Int) != 1) = true -> (xo.toList == [99,111,108,117,109,110]) = false -> (xo.toList == [110,101,103]) = false -> (xo.toList == [110,111,116]) = true -> (xo.toList == [110,117,108,108]) = false -> isTwoN xo = false -> P) ->
  ((xo.toList == [118,97,108,117,101]) = false -> ((L: Int) != 1) = true -> (xo.toList == [99,111,108,117,109,110]) = false -> (xo.toList == [110,101,103]) = false -> (xo.toList == [110,111,116]) = false -> (xo.toList == [110,117,108,108]) = true -> isTwoN xo = false -> P) ->
  ((xo.toList == [118,97,108,117,101]) = false -> ((L: Int) != 2) = true -> (xo.toList == [99,111,108,117,109,110]) = false -> (xo.toList == [110,101,103]) = false -> (xo.toList == [110,111,116]) = false -> (xo.toList == [110,117,108,108]) = false -> isTwoN xo = true -> P) ->
  ((xo.toList == [118,97,108,117,101]) = false -> True -> (xo.toList == [99,111,108,117,109,110]) = false -> (xo.toList == [110,101,103]) = false -> (xo.toList == [110,111,116]) = false -> (xo.toList == [110,117,108,108]) = false -> isTwoN xo = false -> P) -> P := by
  intro P f1 f2 f3 f4 f5 f6 f7
  rcases kidsN_cases xo with e | e | e | e | e | e | ⟨-, e1,e2,e3,e4,e5,e6⟩
  · exact f1 (by rw [e]; rfl) (by rw [<- h]; simp [kidsN,e]) (by rw [e]; rfl) (by rw [e]; rfl) (by rw [e]; rfl) (by rw [e]; rfl) (by rw [isTwoN,e]; rfl)
  · exact f2 (by rw [e]; rfl) (by rw [<- h]; simp [kidsN,e]) (by rw [e]; rfl) (by rw [e]; rfl) (by rw [e]; rfl) (by rw [e]; rfl) (by rw [isTwoN,e]; rfl)
  · exact f3 (by rw [e]; rfl) (len_ne h (by rw [kidsN,e]; rfl)) (by rw [e]; rfl) (by rw [e]; rfl) (by rw [e]; rfl) (by rw [e]; rfl) (by rw [isTwoN,e]; rfl)
  · exact f4 (by rw [e]; rfl) (len_ne h (by rw [kidsN,e]; rfl)) (by rw [e]; rfl) (by rw [e]; rfl) (by rw [e]; rfl) (by rw [e]; rfl) (by rw [isTwoN,e]; rfl)
  · exact f5 (by rw [e]; rfl) (len_ne h (by rw [kidsN,e]; rfl)) (by rw [e]; rfl) (by rw [e]; rfl) (by rw [e]; rfl) (by rw [e]; rfl) (by rw [isTwoN,e]; rfl)
  · obtain ⟨e0,e1,e2,e3,e4,e5⟩ := two_facts e
    exact f6 e1 (len_ne h e0) e2 e3 e4 e5 e
  · exact f7 e1 trivial e2 e3 e4 e5 e6
 clear h
 apply fin
 all_goals
  clear fin
  intro kv kl kc k1 k2 k3 kt
  rw [kt] at HT
  clear kt
  go_enter Tryz.func88,Tryz.ntmps88
  go_wp2_with fail
  refine (HT.out _).mono ?_
  rintro e w1 ⟨rfl,hb⟩
  have HE := Rw.dh (Rbx.on (xo := xo) (xk := xk) (xn := xn) (xs := xs) (xv := xv) (xc := xc) (xa := xa) (k := L) (xp := xp) Rbx.new0 hb)
  clear hb HT
  obtain ⟨n0,n1,n2,n3,n4,n5,n6⟩ := HE.out.cn
  obtain ⟨r0,r1,r2,r3,r4,r5⟩ := cells3 HE.out.r
  obtain ⟨z0,z1,z2,z3,z4,z5⟩ := cells3 HE.out.z
  go_wp2
  exact bodyPost_ret (v := .tuple #[.agg #[.int .i64 0, .int .i64 0, .string ⟨#[]⟩], .int .i64 15]) (by simp [results,Tryz.results88,go_sem,r0,r1,r2]) rfl ⟨rfl,below_set3 (by omega) HE.out.bel _ _ _⟩
end
def REvIH (n: Nat) (ra: Option Addr) (rs: List RowL) (rc: Nat): Prop := ∀ (k: NL) (W: World),InN n W k -> deepN n k = false -> RowsIn W ra rs -> Calls Tryz.prog 88 #[nV k, .slice ra rs.length rc] W (RvP (evN n rs k) W)
theorem reck_err (op: ByteArray) (a b: Vv): errOr (reckVv op a b) (reckE op a.k a.n a.s b.k b.n b.s) = (reckVv op a b,reckE op a.k a.n a.s b.k b.n b.s) := by
 have h: reckE op a.k a.n a.s b.k b.n b.s = 0 \/ reckV op a.k a.n a.s b.k b.n b.s = valV 0 0 ⟨#[]⟩ := by
  unfold reckE reckV
  split
  · exact Or.inr rfl
  split
  · exact Or.inl rfl
  split
  · unfold catE catV
    split
    · exact Or.inl rfl
    · exact Or.inr rfl
  split
  · exact Or.inr rfl
  split
  · exact Or.inl rfl
  · exact Or.inr rfl
 unfold errOr
 rcases h with h | h
 · rw [h]; rfl
 · split
   · rename_i h0; rw [eq_of_beq h0]
   · rw [reckVv,h]; rfl
theorem truthT_range (k n: Int): truthT k n = 0 \/ truthT k n = 1 \/ truthT k n = 2 := by
 unfold truthT
 repeat' split
 all_goals simp
theorem tNot_range (a: Int): tNot a = 0 \/ tNot a = 1 \/ tNot a = 2 := by
 unfold tNot
 repeat' split
 all_goals simp
theorem tAnd_range (a b: Int): tAnd a b = 0 \/ tAnd a b = 1 \/ tAnd a b = 2 := by
 unfold tAnd
 repeat' split
 all_goals simp
theorem tOr_range (a b: Int): tOr a b = 0 \/ tOr a b = 1 \/ tOr a b = 2 := by
 unfold tOr
 repeat' split
 all_goals simp
section
variable {w W: World} {n: Nat} {ra: Option Addr} {rs: List RowL} {m rc: Nat} {xo: ByteArray} {xk xn: Int} {xs: ByteArray} {xv xc: Int} {xa: Option Addr} {k xp: Nat} {l: List NL}
theorem reval_neg {k0: NL} (ho: xo.toList = nNEG) (IH0: REvIH n ra rs rc) (hF: VFit (evN n rs k0).1) (hR: RowsIn w ra rs) (hS: Rw.SlG nC 7 w xa [k0]) (hI0: InN n w k0) (hd0: deepN n k0 = false) :
 Calls Tryz.prog 88 #[nV (.mk xo xk xn xs xv xc xa xp [k0]), .slice ra rs.length rc] w (RvP (oneE xo.toList (evN n rs k0)) w) := by
 have HT: Hid (∀ W,Calls Tryz.prog 67 #[.string xo] W fun e w' => e = .returned (.bool false) /\ Below W.heap.size W w') := fun W => by
  rw [show false = isTwoN xo by rw [isTwoN,ho]; rfl]; exact ntwo_walk xo W
 have q0: (xo.toList == [118,97,108,117,101]) = false := by rw [ho]; rfl
 have q1: (xo.toList == [99,111,108,117,109,110]) = false := by rw [ho]; rfl
 have q2: (xo.toList == [110,101,103]) = true := by rw [ho]; rfl
 have q3: (xo.toList == [110,111,116]) = false := by rw [ho]; rfl
 have q4: (xo.toList == [110,117,108,108]) = false := by rw [ho]; rfl
 have IH := Rw.dh (fun W (hb: Below w.heap.size w W) => IH0 k0 W (hI0.on hb) hd0 (hR.on hb))
 have HS := Rw.dh (fun W (hb: Below w.heap.size w W) => hS.below hb)
 obtain ⟨R,hRR⟩: ∃ R,R = oneE xo.toList (evN n rs k0) := ⟨_,rfl⟩
 rw [<- hRR]
 unfold oneE at hRR
 rw [ho] at hRR
 have HR := Rw.dh hRR
 have HF := Rw.dh hF
 unfold nV
 unfold nV at IH
 dsimp only [NL.op,NL.vk,NL.vn,NL.vs,NL.var,NL.col,NL.a,NL.c,NL.kids,List.length_cons,List.length_nil]
 clear ho IH0 hR hS hI0 hd0 hRR hF
 generalize evN n rs k0 = r0 at *
 go_enter Tryz.func88,Tryz.ntmps88
 go_wp2_with fail
 refine (HT.out _).mono ?_
 rintro e w1 ⟨rfl,hb⟩
 have HE := Rw.dh (Rbx.on (xo := xo) (xk := xk) (xn := xn) (xs := xs) (xv := xv) (xc := xc) (xa := xa) (k := 1) (xp := xp) Rbx.new0 hb)
 clear hb HT
 obtain ⟨n0,n1,n2,n3,n4,n5,n6⟩ := HE.out.cn
 obtain ⟨b,o,x0,rfl,hb,hx,hc⟩ := (HS.out _ HE.out.bel).at (j := 0) (by simp)
 obtain rfl: k0 = x0 := by simpa using hx
 have c0: w1.cell? ⟨b,o,none⟩ = some (.string k0.op) := by simpa using hc 0 _ rfl
 have c1: w1.cell? ⟨b,o + 1,none⟩ = some (.int .i64 k0.vk) := by simpa using hc 1 _ rfl
 have c2: w1.cell? ⟨b,o + 2,none⟩ = some (.int .i64 k0.vn) := by simpa using hc 2 _ rfl
 have c3: w1.cell? ⟨b,o + 3,none⟩ = some (.string k0.vs) := by simpa using hc 3 _ rfl
 have c4: w1.cell? ⟨b,o + 4,none⟩ = some (.int .i64 k0.var) := by simpa using hc 4 _ rfl
 have c5: w1.cell? ⟨b,o + 5,none⟩ = some (.int .i64 k0.col) := by simpa using hc 5 _ rfl
 have c6: w1.cell? ⟨b,o + 6,none⟩ = some (.slice k0.a k0.kids.length k0.c) := by simpa using hc 6 _ rfl
 clear hc hx hb
 go_wp2_with fail
 refine (IH.out _ HE.out.bel).mono ?_
 rintro e w2 ⟨rfl,hb⟩
 have HE2 := Rw.dh (HE.out.on hb)
 clear hb HE IH c0 c1 c2 c3 c4 c5 c6 n0 n1 n2 n3 n4 n5 n6
 obtain ⟨⟨vk,vn,vs⟩,r2⟩ := r0
 unfold vvV valV
 cases hc: (r2 != 0)
 · obtain rfl: r2 = 0 := by simpa using hc
   have HRK: Hid (∀ W,Calls Tryz.prog 124 #[.string ⟨#[45]⟩, .agg #[.int .i64 2, .int .i64 0, .string ⟨#[]⟩], .agg #[.int .i64 vk, .int .i64 vn, .string vs]] W fun e w' => e = .returned (.tuple #[vvV R.1, .int .i64 R.2]) /\ Below W.heap.size W w') := fun W => by
    have h := rreckon_walk minusB 2 0 ⟨#[]⟩ vk vn vs (by decide) HF.out.2.1 W
    have hR: R = (reckVv minusB ⟨2,0,⟨#[]⟩⟩ ⟨vk,vn,vs⟩,reckE minusB 2 0 ⟨#[]⟩ vk vn vs) := by
     rw [<- reck_err minusB ⟨2,0,⟨#[]⟩⟩ ⟨vk,vn,vs⟩]; exact HR.out
    rw [hR, <- reckVv_eq minusB ⟨2,0,⟨#[]⟩⟩ ⟨vk,vn,vs⟩]
    exact h
   clear HR HF
   obtain ⟨⟨uk,un,us⟩,c⟩ := R
   unfold vvV valV at HRK
   dsimp only at HRK
   have HE3 := Rw.dh (HE2.out.on (Rw.below_alloc _ (.cells #[.int .i64 vk, .int .i64 vn, .string vs] 27)))
   obtain ⟨m0,m1,m2,m3,m4,m5,m6⟩ := HE3.out.cn
   go_wp2_with fail
   refine (HRK.out _).mono ?_
   rintro e w3 ⟨rfl,hb⟩
   have HE4 := Rw.dh (HE3.out.on hb)
   clear hb HE2 HE3 HRK m0 m1 m2 m3 m4 m5 m6
   obtain ⟨s0,s1,s2,s3,s4,s5⟩ := cells3 HE4.out.r
   go_wp2
   exact bodyPost_ret (v := .tuple #[.agg #[.int .i64 uk, .int .i64 un, .string us], .int .i64 c]) (by simp [results,Tryz.results88,go_sem,s0,s1,s2]) rfl ⟨rfl,below_set3 (by omega) HE4.out.bel _ _ _⟩
 · have hR: R = (vz,r2) := by rw [HR.out,if_neg (by simpa using hc)]
   subst hR
   clear HR HF
   have HE3 := Rw.dh (HE2.out.on (Rw.below_alloc _ (.cells #[.int .i64 vk, .int .i64 vn, .string vs] 27)))
   clear HE2
   obtain ⟨s0,s1,s2,s3,s4,s5⟩ := cells3 HE3.out.r
   obtain ⟨z0,z1,z2,z3,z4,z5⟩ := cells3 HE3.out.z
   go_wp2
   exact bodyPost_ret (v := .tuple #[.agg #[.int .i64 0, .int .i64 0, .string ⟨#[]⟩], .int .i64 r2]) (by simp [results,Tryz.results88,go_sem,s0,s1,s2]) rfl ⟨rfl,below_set3 (by omega) HE3.out.bel _ _ _⟩
theorem reval_not {k0: NL} (ho: xo.toList = nNOT) (IH0: REvIH n ra rs rc) (hR: RowsIn w ra rs) (hS: Rw.SlG nC 7 w xa [k0]) (hI0: InN n w k0) (hd0: deepN n k0 = false) :
 Calls Tryz.prog 88 #[nV (.mk xo xk xn xs xv xc xa xp [k0]), .slice ra rs.length rc] w (RvP (oneE xo.toList (evN n rs k0)) w) := by
 have HT: Hid (∀ W,Calls Tryz.prog 67 #[.string xo] W fun e w' => e = .returned (.bool false) /\ Below W.heap.size W w') := fun W => by
  rw [show false = isTwoN xo by rw [isTwoN,ho]; rfl]; exact ntwo_walk xo W
 have q0: (xo.toList == [118,97,108,117,101]) = false := by rw [ho]; rfl
 have q1: (xo.toList == [99,111,108,117,109,110]) = false := by rw [ho]; rfl
 have q2: (xo.toList == [110,101,103]) = false := by rw [ho]; rfl
 have q3: (xo.toList == [110,111,116]) = true := by rw [ho]; rfl
 have q4: (xo.toList == [110,117,108,108]) = false := by rw [ho]; rfl
 have IH := Rw.dh (fun W (hb: Below w.heap.size w W) => IH0 k0 W (hI0.on hb) hd0 (hR.on hb))
 have HS := Rw.dh (fun W (hb: Below w.heap.size w W) => hS.below hb)
 obtain ⟨R,hRR⟩: ∃ R,R = oneE xo.toList (evN n rs k0) := ⟨_,rfl⟩
 rw [<- hRR]
 unfold oneE at hRR
 rw [ho] at hRR
 have HR := Rw.dh hRR
 unfold nV
 unfold nV at IH
 dsimp only [NL.op,NL.vk,NL.vn,NL.vs,NL.var,NL.col,NL.a,NL.c,NL.kids,List.length_cons,List.length_nil]
 clear ho IH0 hR hS hI0 hd0 hRR
 generalize evN n rs k0 = r0 at *
 go_enter Tryz.func88,Tryz.ntmps88
 go_wp2_with fail
 refine (HT.out _).mono ?_
 rintro e w1 ⟨rfl,hb⟩
 have HE := Rw.dh (Rbx.on (xo := xo) (xk := xk) (xn := xn) (xs := xs) (xv := xv) (xc := xc) (xa := xa) (k := 1) (xp := xp) Rbx.new0 hb)
 clear hb HT
 obtain ⟨n0,n1,n2,n3,n4,n5,n6⟩ := HE.out.cn
 obtain ⟨b,o,x0,rfl,hb,hx,hc⟩ := (HS.out _ HE.out.bel).at (j := 0) (by simp)
 obtain rfl: k0 = x0 := by simpa using hx
 have c0: w1.cell? ⟨b,o,none⟩ = some (.string k0.op) := by simpa using hc 0 _ rfl
 have c1: w1.cell? ⟨b,o + 1,none⟩ = some (.int .i64 k0.vk) := by simpa using hc 1 _ rfl
 have c2: w1.cell? ⟨b,o + 2,none⟩ = some (.int .i64 k0.vn) := by simpa using hc 2 _ rfl
 have c3: w1.cell? ⟨b,o + 3,none⟩ = some (.string k0.vs) := by simpa using hc 3 _ rfl
 have c4: w1.cell? ⟨b,o + 4,none⟩ = some (.int .i64 k0.var) := by simpa using hc 4 _ rfl
 have c5: w1.cell? ⟨b,o + 5,none⟩ = some (.int .i64 k0.col) := by simpa using hc 5 _ rfl
 have c6: w1.cell? ⟨b,o + 6,none⟩ = some (.slice k0.a k0.kids.length k0.c) := by simpa using hc 6 _ rfl
 clear hc hx hb
 go_wp2_with fail
 refine (IH.out _ HE.out.bel).mono ?_
 rintro e w2 ⟨rfl,hb⟩
 have HE2 := Rw.dh (HE.out.on hb)
 clear hb HE IH c0 c1 c2 c3 c4 c5 c6 n0 n1 n2 n3 n4 n5 n6
 obtain ⟨⟨vk,vn,vs⟩,r2⟩ := r0
 unfold vvV valV
 cases hc: (r2 != 0)
 · obtain rfl: r2 = 0 := by simpa using hc
   have HRT := Rw.dh (fun W => rtruth_walk vk vn vs W)
   have HR1: Hid (R = if truthE vk vn == 0 then (ofVv (tNot (truthT vk vn)),0) else (vz,truthE vk vn)) := HR.out
   clear HR hc
   have HE3 := Rw.dh (HE2.out.on (Rw.below_alloc _ (.cells #[.int .i64 vk, .int .i64 vn, .string vs] 27)))
   obtain ⟨m0,m1,m2,m3,m4,m5,m6⟩ := HE3.out.cn
   unfold valV at HRT
   generalize truthT vk vn = t at HRT HR1
   generalize truthE vk vn = c at HRT HR1
   go_wp2_with fail
   refine (HRT.out _).mono ?_
   rintro e w3 ⟨rfl,hb⟩
   have HE4 := Rw.dh (HE3.out.on hb)
   clear hb HE2 HE3 HRT m0 m1 m2 m3 m4 m5 m6
   obtain ⟨m0,m1,m2,m3,m4,m5,m6⟩ := HE4.out.cn
   cases hc: (c != 0)
   · obtain rfl: c = 0 := by simpa using hc
     have hR: R = (ofVv (tNot t),0) := HR1.out
     subst hR
     clear HR1
     have HO := Rw.dh (fun W => rof_walk (tNot t) (tNot_range t) W)
     go_wp2_with (go_at_call 126; refine (rnot_walk _ _).mono ?_; rintro e w' ⟨rfl,rfl⟩)
     refine (HO.out _).mono ?_
     rintro e w5 ⟨rfl,hb⟩
     have HE5 := Rw.dh (HE4.out.on hb)
     clear hb HE4 HO m0 m1 m2 m3 m4 m5 m6
     generalize ofVv (tNot t) = r at *
     obtain ⟨uk,un,us⟩ := r
     unfold vvV valV
     obtain ⟨s0,s1,s2,s3,s4,s5⟩ := cells3 HE5.out.r
     go_wp2
     exact bodyPost_ret (v := .tuple #[.agg #[.int .i64 uk, .int .i64 un, .string us], .int .i64 0]) (by simp [results,Tryz.results88,go_sem,s0,s1,s2]) rfl ⟨rfl,below_set3 (by omega) HE5.out.bel _ _ _⟩
   · have hR: R = (vz,c) := by rw [HR1.out,if_neg (by simpa using hc)]
     subst hR
     clear HR1
     obtain ⟨s0,s1,s2,s3,s4,s5⟩ := cells3 HE4.out.r
     obtain ⟨z0,z1,z2,z3,z4,z5⟩ := cells3 HE4.out.z
     go_wp2
     exact bodyPost_ret (v := .tuple #[.agg #[.int .i64 0, .int .i64 0, .string ⟨#[]⟩], .int .i64 c]) (by simp [results,Tryz.results88,go_sem,s0,s1,s2]) rfl ⟨rfl,below_set3 (by omega) HE4.out.bel _ _ _⟩
 · have hR: R = (vz,r2) := by rw [HR.out,if_neg (by simpa using hc)]
   subst hR
   clear HR
   have HE3 := Rw.dh (HE2.out.on (Rw.below_alloc _ (.cells #[.int .i64 vk, .int .i64 vn, .string vs] 27)))
   clear HE2
   obtain ⟨s0,s1,s2,s3,s4,s5⟩ := cells3 HE3.out.r
   obtain ⟨z0,z1,z2,z3,z4,z5⟩ := cells3 HE3.out.z
   go_wp2
   exact bodyPost_ret (v := .tuple #[.agg #[.int .i64 0, .int .i64 0, .string ⟨#[]⟩], .int .i64 r2]) (by simp [results,Tryz.results88,go_sem,s0,s1,s2]) rfl ⟨rfl,below_set3 (by omega) HE3.out.bel _ _ _⟩
theorem reval_null {k0: NL} (ho: xo.toList = nNULL) (IH0: REvIH n ra rs rc) (hR: RowsIn w ra rs) (hS: Rw.SlG nC 7 w xa [k0]) (hI0: InN n w k0) (hd0: deepN n k0 = false) :
 Calls Tryz.prog 88 #[nV (.mk xo xk xn xs xv xc xa xp [k0]), .slice ra rs.length rc] w (RvP (oneE xo.toList (evN n rs k0)) w) := by
 have HT: Hid (∀ W,Calls Tryz.prog 67 #[.string xo] W fun e w' => e = .returned (.bool false) /\ Below W.heap.size W w') := fun W => by
  rw [show false = isTwoN xo by rw [isTwoN,ho]; rfl]; exact ntwo_walk xo W
 have q0: (xo.toList == [118,97,108,117,101]) = false := by rw [ho]; rfl
 have q1: (xo.toList == [99,111,108,117,109,110]) = false := by rw [ho]; rfl
 have q2: (xo.toList == [110,101,103]) = false := by rw [ho]; rfl
 have q3: (xo.toList == [110,111,116]) = false := by rw [ho]; rfl
 have q4: (xo.toList == [110,117,108,108]) = true := by rw [ho]; rfl
 have IH := Rw.dh (fun W (hb: Below w.heap.size w W) => IH0 k0 W (hI0.on hb) hd0 (hR.on hb))
 have HS := Rw.dh (fun W (hb: Below w.heap.size w W) => hS.below hb)
 obtain ⟨R,hRR⟩: ∃ R,R = oneE xo.toList (evN n rs k0) := ⟨_,rfl⟩
 rw [<- hRR]
 unfold oneE at hRR
 rw [ho] at hRR
 have HR := Rw.dh hRR
 unfold nV
 unfold nV at IH
 dsimp only [NL.op,NL.vk,NL.vn,NL.vs,NL.var,NL.col,NL.a,NL.c,NL.kids,List.length_cons,List.length_nil]
 clear ho IH0 hR hS hI0 hd0 hRR
 generalize evN n rs k0 = r0 at *
 go_enter Tryz.func88,Tryz.ntmps88
 go_wp2_with fail
 refine (HT.out _).mono ?_
 rintro e w1 ⟨rfl,hb⟩
 have HE := Rw.dh (Rbx.on (xo := xo) (xk := xk) (xn := xn) (xs := xs) (xv := xv) (xc := xc) (xa := xa) (k := 1) (xp := xp) Rbx.new0 hb)
 clear hb HT
 obtain ⟨n0,n1,n2,n3,n4,n5,n6⟩ := HE.out.cn
 obtain ⟨b,o,x0,rfl,hb,hx,hc⟩ := (HS.out _ HE.out.bel).at (j := 0) (by simp)
 obtain rfl: k0 = x0 := by simpa using hx
 have c0: w1.cell? ⟨b,o,none⟩ = some (.string k0.op) := by simpa using hc 0 _ rfl
 have c1: w1.cell? ⟨b,o + 1,none⟩ = some (.int .i64 k0.vk) := by simpa using hc 1 _ rfl
 have c2: w1.cell? ⟨b,o + 2,none⟩ = some (.int .i64 k0.vn) := by simpa using hc 2 _ rfl
 have c3: w1.cell? ⟨b,o + 3,none⟩ = some (.string k0.vs) := by simpa using hc 3 _ rfl
 have c4: w1.cell? ⟨b,o + 4,none⟩ = some (.int .i64 k0.var) := by simpa using hc 4 _ rfl
 have c5: w1.cell? ⟨b,o + 5,none⟩ = some (.int .i64 k0.col) := by simpa using hc 5 _ rfl
 have c6: w1.cell? ⟨b,o + 6,none⟩ = some (.slice k0.a k0.kids.length k0.c) := by simpa using hc 6 _ rfl
 clear hc hx hb
 go_wp2_with fail
 refine (IH.out _ HE.out.bel).mono ?_
 rintro e w2 ⟨rfl,hb⟩
 have HE2 := Rw.dh (HE.out.on hb)
 clear hb HE IH c0 c1 c2 c3 c4 c5 c6 n0 n1 n2 n3 n4 n5 n6
 obtain ⟨⟨vk,vn,vs⟩,r2⟩ := r0
 unfold vvV valV
 cases hc: (r2 != 0)
 · obtain rfl: r2 = 0 := by simpa using hc
   have HR1: Hid (R = (ofVv (if isZ ⟨vk,vn,vs⟩ then 1 else 0),0)) := HR.out
   clear HR hc
   have HE3 := Rw.dh (HE2.out.on (Rw.below_alloc _ (.cells #[.int .i64 vk, .int .i64 vn, .string vs] 27)))
   obtain ⟨m0,m1,m2,m3,m4,m5,m6⟩ := HE3.out.cn
   obtain ⟨z0,z1,z2,z3,z4,z5⟩ := cells3 HE3.out.z
   have hz: isZ ⟨vk,vn,vs⟩ = (vk == 0 && vn == 0 && vs.toList == []) := rfl
   rw [hz] at HR1
   clear hz
   cases h1: (vk == 0) <;> cases h2: (vn == 0) <;> cases h3: (vs.toList == []) <;> rw [h1,h2,h3] at HR1
   case true.true.true =>
    have hR: R = (ofVv 1,0) := HR1.out
    subst hR
    clear HR1
    have HO := Rw.dh (fun W => rof_walk 1 (by decide) W)
    go_wp2_with fail
    refine (HO.out _).mono ?_
    rintro e w5 ⟨rfl,hb⟩
    have HE5 := Rw.dh (HE3.out.on hb)
    clear hb HE3 HE2 HO m0 m1 m2 m3 m4 m5 m6 z0 z1 z2 z3 z4 z5
    generalize ofVv 1 = r at *
    obtain ⟨uk,un,us⟩ := r
    unfold vvV valV
    obtain ⟨s0,s1,s2,s3,s4,s5⟩ := cells3 HE5.out.r
    go_wp2
    exact bodyPost_ret (v := .tuple #[.agg #[.int .i64 uk, .int .i64 un, .string us], .int .i64 0]) (by simp [results,Tryz.results88,go_sem,s0,s1,s2]) rfl ⟨rfl,below_set3 (by omega) HE5.out.bel _ _ _⟩
   all_goals
    have hR: R = (ofVv 0,0) := HR1.out
    subst hR
    clear HR1
    have HO := Rw.dh (fun W => rof_walk 0 (by decide) W)
    go_wp2_with fail
    refine (HO.out _).mono ?_
    rintro e w5 ⟨rfl,hb⟩
    have HE5 := Rw.dh (HE3.out.on hb)
    clear hb HE3 HE2 HO m0 m1 m2 m3 m4 m5 m6 z0 z1 z2 z3 z4 z5
    generalize ofVv 0 = r at *
    obtain ⟨uk,un,us⟩ := r
    unfold vvV valV
    obtain ⟨s0,s1,s2,s3,s4,s5⟩ := cells3 HE5.out.r
    go_wp2
    exact bodyPost_ret (v := .tuple #[.agg #[.int .i64 uk, .int .i64 un, .string us], .int .i64 0]) (by simp [results,Tryz.results88,go_sem,s0,s1,s2]) rfl ⟨rfl,below_set3 (by omega) HE5.out.bel _ _ _⟩
 · have hR: R = (vz,r2) := by rw [HR.out,if_neg (by simpa using hc)]
   subst hR
   clear HR
   have HE3 := Rw.dh (HE2.out.on (Rw.below_alloc _ (.cells #[.int .i64 vk, .int .i64 vn, .string vs] 27)))
   clear HE2
   obtain ⟨s0,s1,s2,s3,s4,s5⟩ := cells3 HE3.out.r
   obtain ⟨z0,z1,z2,z3,z4,z5⟩ := cells3 HE3.out.z
   go_wp2
   exact bodyPost_ret (v := .tuple #[.agg #[.int .i64 0, .int .i64 0, .string ⟨#[]⟩], .int .i64 r2]) (by simp [results,Tryz.results88,go_sem,s0,s1,s2]) rfl ⟨rfl,below_set3 (by omega) HE3.out.bel _ _ _⟩
end
end Go.Proofs.YteibhbnlcpejpaaGreat
