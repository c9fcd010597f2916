import Derived.Test.YtdaikppppkbfoaaMBB
set_option maxRecDepth 100000
set_option maxHeartbeats 4000000
namespace Go.Proofs.Ytdaikppppkbfoaa
open Go.RowKit
section
variable {w W: World} {n: Nat} {ra: Option Addr} {rs: List RowL} {m rc: Nat} {xo: ByteArray} {xk xn: Int} {xs: ByteArray} {xv xc: Int} {xa: Option Addr} {k xp: Nat} {l: List NL}
theorem Rbx.new0: Rbx w (((w.alloc (.cells #[.string xo, .int .i64 xk, .int .i64 xn, .string xs, .int .i64 xv, .int .i64 xc, .slice xa k xp] 109)).alloc (.cells #[.int .i64 0, .int .i64 0, .string ⟨#[]⟩] 44)).alloc (.cells #[.int .i64 0, .int .i64 0, .string ⟨#[]⟩] 44)) xo xk xn xs xv xc xa k xp :=
 ⟨below_three w _ _ _,
  ((Below.heap_alloc _ _ _ (by simp; omega)).trans (Below.heap_alloc _ _ _ (by simp))).trans (Rw.heap_new w _),
  (Below.heap_alloc _ _ _ (by simp)).trans (heap_two w _ _),heap_three w _ _ _⟩
theorem Rbx.drewN (h: Rbx w W xo xk xn xs xv xc xa k xp) (nq: Nat): Rbx w (W.drewN nq) xo xk xn xs xv xc xa k xp := h.on (below_drewN (Below.refl _ _) nq)
theorem reval_col_clo {b o: Nat} {r: RowL} (hv0: 0 <= xv) (hv1: xv < (rs.length: Int)) (hb: b < w.heap.size) (c0: w.cell? ⟨b,o + xv.toNat,none⟩ = some (.slice r.a r.l.length r.c)) (h2: xc < 0) (hl: l = []) (ho: xo.toList = nCOLUMN) :
 Calls Try.prog 103 #[nV (.mk xo xk xn xs xv xc xa xp l), .slice (some ⟨b,o,none⟩) rs.length rc] w (RvP (vz,15) w) := by
 have k1: (xo.toList == [118,97,108,117,101]) = false := by rw [ho]; rfl
 have k2: (xo.toList == [99,111,108,117,109,110]) = true := by rw [ho]; rfl
 subst hl
 unfold nV
 dsimp only [NL.op,NL.vk,NL.vn,NL.vs,NL.var,NL.col,NL.a,NL.c,NL.kids,List.length_nil]
 clear ho
 have g0: decide (xv < 0) = false := decide_eq_false (by omega)
 have g1: decide ((rs.length: Int) <= xv) = false := decide_eq_false (by omega)
 have g2: decide (xv ≥ (rs.length: Int)) = false := decide_eq_false (by omega)
 have g3: decide (xc < 0) = true := decide_eq_true (by omega)
 generalize rs.length = N at *
 generalize r.l.length = M at *
 go_enter Try.func103,Try.ntmps103
 go_wp2_with fail
 refine Rw.to_letter (F := fun W => Rbx w W xo xk xn xs xv xc xa 0 xp) Rbx.new0 ?_
 intro W hE
 have HE := Rw.dh hE
 obtain ⟨n0,n1,n2,n3,n4,n5,n6⟩ := hE.cn
 have e0: W.cell? ⟨b,o + xv.toNat,none⟩ = some (.slice r.a M r.c) := by rw [hE.bel.cell hb]; assumption
 clear hE
 go_quiet (fail)
 rename_i nq
 refine Rw.to_letter (F := fun W => Rbx w W xo xk xn xs xv xc xa 0 xp) (HE.out.drewN _) ?_
 clear HE
 intro V hE
 skip
 have HE := Rw.dh hE
 obtain ⟨m0,m1,m2,m3,m4,m5,m6⟩ := hE.cn
 obtain ⟨r0,r1,r2,r3,r4,r5⟩ := cells3 hE.r
 obtain ⟨z0,z1,z2,z3,z4,z5⟩ := cells3 hE.z
 clear hE
 go_wp2
 exact bodyPost_ret (v := .tuple #[.agg #[.int .i64 0, .int .i64 0, .string ⟨#[]⟩], .int .i64 15]) (by simp [results,Try.results103,go_sem,r0,r1,r2]) rfl ⟨rfl,below_set3 (by omega) HE.out.bel _ _ _⟩
theorem reval_col_chi {b o: Nat} {r: RowL} (hv0: 0 <= xv) (hv1: xv < (rs.length: Int)) (hb: b < w.heap.size) (c0: w.cell? ⟨b,o + xv.toNat,none⟩ = some (.slice r.a r.l.length r.c)) (h2: 0 <= xc) (h3: (r.l.length: Int) <= xc) (hl: l = []) (ho: xo.toList = nCOLUMN) :
 Calls Try.prog 103 #[nV (.mk xo xk xn xs xv xc xa xp l), .slice (some ⟨b,o,none⟩) rs.length rc] w (RvP (vz,15) w) := by
 have k1: (xo.toList == [118,97,108,117,101]) = false := by rw [ho]; rfl
 have k2: (xo.toList == [99,111,108,117,109,110]) = true := by rw [ho]; rfl
 subst hl
 unfold nV
 dsimp only [NL.op,NL.vk,NL.vn,NL.vs,NL.var,NL.col,NL.a,NL.c,NL.kids,List.length_nil]
 clear ho
 have g0: decide (xv < 0) = false := decide_eq_false (by omega)
 have g1: decide ((rs.length: Int) <= xv) = false := decide_eq_false (by omega)
 have g2: decide (xv ≥ (rs.length: Int)) = false := decide_eq_false (by omega)
 have g3: decide (xc < 0) = false := decide_eq_false (by omega)
 have g4: decide ((r.l.length: Int) <= xc) = true := decide_eq_true (by omega)
 have g5: decide (xc ≥ (r.l.length: Int)) = true := decide_eq_true (by omega)
 generalize rs.length = N at *
 generalize r.l.length = M at *
 go_enter Try.func103,Try.ntmps103
 go_wp2_with fail
 refine Rw.to_letter (F := fun W => Rbx w W xo xk xn xs xv xc xa 0 xp) Rbx.new0 ?_
 intro W hE
 have HE := Rw.dh hE
 obtain ⟨n0,n1,n2,n3,n4,n5,n6⟩ := hE.cn
 have e0: W.cell? ⟨b,o + xv.toNat,none⟩ = some (.slice r.a M r.c) := by rw [hE.bel.cell hb]; assumption
 clear hE
 go_quiet (fail)
 rename_i nq
 refine Rw.to_letter (F := fun W => Rbx w W xo xk xn xs xv xc xa 0 xp) (HE.out.drewN _) ?_
 clear HE
 intro V hE
 skip
 have HE := Rw.dh hE
 obtain ⟨m0,m1,m2,m3,m4,m5,m6⟩ := hE.cn
 obtain ⟨r0,r1,r2,r3,r4,r5⟩ := cells3 hE.r
 obtain ⟨z0,z1,z2,z3,z4,z5⟩ := cells3 hE.z
 clear hE
 go_wp2
 exact bodyPost_ret (v := .tuple #[.agg #[.int .i64 0, .int .i64 0, .string ⟨#[]⟩], .int .i64 15]) (by simp [results,Try.results103,go_sem,r0,r1,r2]) rfl ⟨rfl,below_set3 (by omega) HE.out.bel _ _ _⟩
end
section
variable {w W: World} {n: Nat} {ra: Option Addr} {rs: List RowL} {m rc: Nat} {xo: ByteArray} {xk xn: Int} {xs: ByteArray} {xv xc: Int} {xa: Option Addr} {k xp: Nat} {l: List NL}
theorem kidsN_cases (s: ByteArray): s.toList = nVALUE \/ s.toList = nCOLUMN \/ s.toList = nNEG \/ s.toList = nNOT \/ s.toList = nNULL \/ isTwoN s = true \/ (kidsN s = -1 /\ (s.toList == nVALUE) = false /\ (s.toList == nCOLUMN) = false /\ (s.toList == nNEG) = false /\ (s.toList == nNOT) = false /\ (s.toList == nNULL) = false /\ isTwoN s = false) := by
 by_cases h1: s.toList = nVALUE
 · exact Or.inl h1
 by_cases h2: s.toList = nCOLUMN
 · exact Or.inr (Or.inl h2)
 by_cases h3: s.toList = nNEG
 · exact Or.inr (Or.inr (Or.inl h3))
 by_cases h4: s.toList = nNOT
 · exact Or.inr (Or.inr (Or.inr (Or.inl h4)))
 by_cases h5: s.toList = nNULL
 · exact Or.inr (Or.inr (Or.inr (Or.inr (Or.inl h5))))
 cases h6: isTwoN s
 · refine Or.inr (Or.inr (Or.inr (Or.inr (Or.inr (Or.inr ⟨?_,beq_eq_false_iff_ne.2 h1,beq_eq_false_iff_ne.2 h2,beq_eq_false_iff_ne.2 h3,beq_eq_false_iff_ne.2 h4,beq_eq_false_iff_ne.2 h5,rfl⟩)))))
   unfold kidsN
   unfold isTwoN at h6
   rw [beq_eq_false_iff_ne.2 h1,beq_eq_false_iff_ne.2 h2,h6]
   have h7: nops1.contains s.toList = false := by
    simp only [nops1,List.contains_cons,List.contains_nil,beq_eq_false_iff_ne.2 h3,beq_eq_false_iff_ne.2 h4,beq_eq_false_iff_ne.2 h5,Bool.or_false]
   rw [h7]; rfl
 · exact Or.inr (Or.inr (Or.inr (Or.inr (Or.inr (Or.inl rfl)))))
theorem two_facts {s: ByteArray} (h: isTwoN s = true): kidsN s = 2 /\ (s.toList == nVALUE) = false /\ (s.toList == nCOLUMN) = false /\ (s.toList == nNEG) = false /\ (s.toList == nNOT) = false /\ (s.toList == nNULL) = false := by
 unfold isTwoN at h
 unfold kidsN
 have hm: s.toList ∈ nops2 := by simpa using h
 simp only [nops2,List.mem_cons,List.not_mem_nil,or_false] at hm
 rcases hm with e | e | e | e | e | e | e | e | e | e | e <;> rw [e] <;> exact ⟨by decide,by decide,by decide,by decide,by decide,by decide⟩
theorem len_ne {L: Nat} {K: Int} (h: ((L: Int) == K) = false) {c: Int} (hc: K = c): ((L: Int) != c) = true := by subst hc; simpa [bne] using h
theorem reval_bad (h: ((l.length: Int) == kidsN xo) = false) :
 Calls Try.prog 103 #[nV (.mk xo xk xn xs xv xc xa xp l), .slice ra rs.length rc] w (RvP (vz,15) w) := by
 have HT := Rw.dh (fun W => ntwo_walk xo W)
 unfold nV
 dsimp only [NL.op,NL.vk,NL.vn,NL.vs,NL.var,NL.col,NL.a,NL.c,NL.kids]
 generalize l.length = L at *
 generalize rs.length = N at *
 have fin: ∀ P: Prop,
  ((xo.toList == [118,97,108,117,101]) = true -> ((L: Int) == 0) = false -> (xo.toList == [99,111,108,117,109,110]) = false -> (xo.toList == [110,101,103]) = false -> (xo.toList == [110,111,116]) = false -> (xo.toList == [110,117,108,108]) = false -> isTwoN xo = false -> P) ->
  ((xo.toList == [118,97,108,117,101]) = false -> ((L: Int) == 0) = false -> (xo.toList == [99,111,108,117,109,110]) = true -> (xo.toList == [110,101,103]) = false -> (xo.toList == [110,111,116]) = false -> (xo.toList == [110,117,108,108]) = false -> isTwoN xo = false -> P) ->
  ((xo.toList == [118,97,108,117,101]) = false -> ((L: Int) != 1) = true -> (xo.toList == [99,111,108,117,109,110]) = false -> (xo.toList == [110,101,103]) = true -> (xo.toList == [110,111,116]) = false -> (xo.toList == [110,117,108,108]) = false -> isTwoN xo = false -> P) ->
  ((xo.toList == [118,97,108,117,101]) = false -> ((L: Int) != 1) = true -> (xo.toList == [99,111,108,117,109,110]) = false -> (xo.toList == [110,101,103]) = false -> (xo.toList == [110,111,116]) = true -> (xo.toList == [110,117,108,108]) = false -> isTwoN xo = false -> P) ->
  ((xo.toList == [118,97,108,117,101]) = false -> ((L: Int) != 1) = true -> (xo.toList == [99,111,108,117,109,110]) = false -> (xo.toList == [110,101,103]) = false -> (xo.toList == [110,111,116]) = false -> (xo.toList == [110,117,108,108]) = true -> isTwoN xo = false -> P) ->
  ((xo.toList == [118,97,108,117,101]) = false -> ((L: Int) != 2) = true -> (xo.toList == [99,111,108,117,109,110]) = false -> (xo.toList == [110,101,103]) = false -> (xo.toList == [110,111,116]) = false -> (xo.toList == [110,117,108,108]) = false -> isTwoN xo = true -> P) ->
  ((xo.toList == [118,97,108,117,101]) = false -> True -> (xo.toList == [99,111,108,117,109,110]) = false -> (xo.toList == [110,101,103]) = false -> (xo.toList == [110,111,116]) = false -> (xo.toList == [110,117,108,108]) = false -> isTwoN xo = false -> P) -> P := by
  intro P f1 f2 f3 f4 f5 f6 f7
  rcases kidsN_cases xo with e | e | e | e | e | e | ⟨-, e1,e2,e3,e4,e5,e6⟩
  · exact f1 (by rw [e]; rfl) (by rw [<- h]; simp [kidsN,e]) (by rw [e]; rfl) (by rw [e]; rfl) (by rw [e]; rfl) (by rw [e]; rfl) (by rw [isTwoN,e]; rfl)
  · exact f2 (by rw [e]; rfl) (by rw [<- h]; simp [kidsN,e]) (by rw [e]; rfl) (by rw [e]; rfl) (by rw [e]; rfl) (by rw [e]; rfl) (by rw [isTwoN,e]; rfl)
  · exact f3 (by rw [e]; rfl) (len_ne h (by rw [kidsN,e]; rfl)) (by rw [e]; rfl) (by rw [e]; rfl) (by rw [e]; rfl) (by rw [e]; rfl) (by rw [isTwoN,e]; rfl)
  · exact f4 (by rw [e]; rfl) (len_ne h (by rw [kidsN,e]; rfl)) (by rw [e]; rfl) (by rw [e]; rfl) (by rw [e]; rfl) (by rw [e]; rfl) (by rw [isTwoN,e]; rfl)
  · exact f5 (by rw [e]; rfl) (len_ne h (by rw [kidsN,e]; rfl)) (by rw [e]; rfl) (by rw [e]; rfl) (by rw [e]; rfl) (by rw [e]; rfl) (by rw [isTwoN,e]; rfl)
  · obtain ⟨e0,e1,e2,e3,e4,e5⟩ := two_facts e
    exact f6 e1 (len_ne h e0) e2 e3 e4 e5 e
  · exact f7 e1 trivial e2 e3 e4 e5 e6
 clear h
 apply fin
 all_goals
  clear fin
  intro kv kl kc k1 k2 k3 kt
  rw [kt] at HT
  clear kt
  go_enter Try.func103,Try.ntmps103
  go_wp2_with fail
  refine (HT.out _).mono ?_
  rintro e w1 ⟨rfl,hb⟩
  have HE := Rw.dh (Rbx.on (xo := xo) (xk := xk) (xn := xn) (xs := xs) (xv := xv) (xc := xc) (xa := xa) (k := L) (xp := xp) Rbx.new0 hb)
  clear hb HT
  obtain ⟨n0,n1,n2,n3,n4,n5,n6⟩ := HE.out.cn
  obtain ⟨r0,r1,r2,r3,r4,r5⟩ := cells3 HE.out.r
  obtain ⟨z0,z1,z2,z3,z4,z5⟩ := cells3 HE.out.z
  go_wp2
  exact bodyPost_ret (v := .tuple #[.agg #[.int .i64 0, .int .i64 0, .string ⟨#[]⟩], .int .i64 15]) (by simp [results,Try.results103,go_sem,r0,r1,r2]) rfl ⟨rfl,below_set3 (by omega) HE.out.bel _ _ _⟩
end
end Go.Proofs.Ytdaikppppkbfoaa
