import Derived.Test.YtdaikppppkbfoaaMBC
set_option maxRecDepth 100000
set_option maxHeartbeats 4000000
namespace Go.Proofs.Ytdaikppppkbfoaa
open Go.RowKit
def REvIH (n: Nat) (ra: Option Addr) (rs: List RowL) (rc: Nat): Prop := ∀ (k: NL) (W: World),InN n W k -> deepN n k = false -> RowsIn W ra rs -> Calls Try.prog 103 #[nV k, .slice ra rs.length rc] W (RvP (evN n rs k) W)
theorem reck_err (op: ByteArray) (a b: Vv): errOr (reckVv op a b) (reckE op a.k a.n a.s b.k b.n b.s) = (reckVv op a b,reckE op a.k a.n a.s b.k b.n b.s) := by
 have h: reckE op a.k a.n a.s b.k b.n b.s = 0 \/ reckV op a.k a.n a.s b.k b.n b.s = valV 0 0 ⟨#[]⟩ := by
  unfold reckE reckV
  split
  · exact Or.inr rfl
  split
  · exact Or.inl rfl
  split
  · unfold catE catV
    split
    · exact Or.inl rfl
    · exact Or.inr rfl
  split
  · exact Or.inr rfl
  split
  · exact Or.inl rfl
  · exact Or.inr rfl
 unfold errOr
 rcases h with h | h
 · rw [h]; rfl
 · split
   · rename_i h0; rw [eq_of_beq h0]
   · rw [reckVv,h]; rfl
theorem truthT_range (k n: Int): truthT k n = 0 \/ truthT k n = 1 \/ truthT k n = 2 := by
 unfold truthT
 repeat' split
 all_goals simp
theorem tNot_range (a: Int): tNot a = 0 \/ tNot a = 1 \/ tNot a = 2 := by
 unfold tNot
 repeat' split
 all_goals simp
theorem tAnd_range (a b: Int): tAnd a b = 0 \/ tAnd a b = 1 \/ tAnd a b = 2 := by
 unfold tAnd
 repeat' split
 all_goals simp
theorem tOr_range (a b: Int): tOr a b = 0 \/ tOr a b = 1 \/ tOr a b = 2 := by
 unfold tOr
 repeat' split
 all_goals simp
section
variable {w W: World} {n: Nat} {ra: Option Addr} {rs: List RowL} {m rc: Nat} {xo: ByteArray} {xk xn: Int} {xs: ByteArray} {xv xc: Int} {xa: Option Addr} {k xp: Nat} {l: List NL}
theorem reval_neg {k0: NL} (ho: xo.toList = nNEG) (IH0: REvIH n ra rs rc) (hF: VFit (evN n rs k0).1) (hR: RowsIn w ra rs) (hS: Rw.SlG nC 7 w xa [k0]) (hI0: InN n w k0) (hd0: deepN n k0 = false) :
 Calls Try.prog 103 #[nV (.mk xo xk xn xs xv xc xa xp [k0]), .slice ra rs.length rc] w (RvP (oneE xo.toList (evN n rs k0)) w) := by
 have HT: Hid (∀ W,Calls Try.prog 39 #[.string xo] W fun e w' => e = .returned (.bool false) /\ Below W.heap.size W w') := fun W => by
  rw [show false = isTwoN xo by rw [isTwoN,ho]; rfl]; exact ntwo_walk xo W
 have q0: (xo.toList == [118,97,108,117,101]) = false := by rw [ho]; rfl
 have q1: (xo.toList == [99,111,108,117,109,110]) = false := by rw [ho]; rfl
 have q2: (xo.toList == [110,101,103]) = true := by rw [ho]; rfl
 have q3: (xo.toList == [110,111,116]) = false := by rw [ho]; rfl
 have q4: (xo.toList == [110,117,108,108]) = false := by rw [ho]; rfl
 have IH := Rw.dh (fun W (hb: Below w.heap.size w W) => IH0 k0 W (hI0.on hb) hd0 (hR.on hb))
 have HS := Rw.dh (fun W (hb: Below w.heap.size w W) => hS.below hb)
 obtain ⟨R,hRR⟩: ∃ R,R = oneE xo.toList (evN n rs k0) := ⟨_,rfl⟩
 rw [<- hRR]
 unfold oneE at hRR
 rw [ho] at hRR
 have HR := Rw.dh hRR
 have HF := Rw.dh hF
 unfold nV
 unfold nV at IH
 dsimp only [NL.op,NL.vk,NL.vn,NL.vs,NL.var,NL.col,NL.a,NL.c,NL.kids,List.length_cons,List.length_nil]
 clear ho IH0 hR hS hI0 hd0 hRR hF
 generalize evN n rs k0 = r0 at *
 go_enter Try.func103,Try.ntmps103
 go_wp2_with fail
 refine (HT.out _).mono ?_
 rintro e w1 ⟨rfl,hb⟩
 have HE := Rw.dh (Rbx.on (xo := xo) (xk := xk) (xn := xn) (xs := xs) (xv := xv) (xc := xc) (xa := xa) (k := 1) (xp := xp) Rbx.new0 hb)
 clear hb HT
 obtain ⟨n0,n1,n2,n3,n4,n5,n6⟩ := HE.out.cn
 obtain ⟨b,o,x0,rfl,hb,hx,hc⟩ := (HS.out _ HE.out.bel).at (j := 0) (by simp)
 obtain rfl: k0 = x0 := by simpa using hx
 have c0: w1.cell? ⟨b,o,none⟩ = some (.string k0.op) := by simpa using hc 0 _ rfl
 have c1: w1.cell? ⟨b,o + 1,none⟩ = some (.int .i64 k0.vk) := by simpa using hc 1 _ rfl
 have c2: w1.cell? ⟨b,o + 2,none⟩ = some (.int .i64 k0.vn) := by simpa using hc 2 _ rfl
 have c3: w1.cell? ⟨b,o + 3,none⟩ = some (.string k0.vs) := by simpa using hc 3 _ rfl
 have c4: w1.cell? ⟨b,o + 4,none⟩ = some (.int .i64 k0.var) := by simpa using hc 4 _ rfl
 have c5: w1.cell? ⟨b,o + 5,none⟩ = some (.int .i64 k0.col) := by simpa using hc 5 _ rfl
 have c6: w1.cell? ⟨b,o + 6,none⟩ = some (.slice k0.a k0.kids.length k0.c) := by simpa using hc 6 _ rfl
 clear hc hx hb
 go_wp2_with fail
 refine (IH.out _ HE.out.bel).mono ?_
 rintro e w2 ⟨rfl,hb⟩
 have HE2 := Rw.dh (HE.out.on hb)
 clear hb HE IH c0 c1 c2 c3 c4 c5 c6 n0 n1 n2 n3 n4 n5 n6
 obtain ⟨⟨vk,vn,vs⟩,r2⟩ := r0
 unfold vvV valV
 cases hc: (r2 != 0)
 · obtain rfl: r2 = 0 := by simpa using hc
   have HRK: Hid (∀ W,Calls Try.prog 136 #[.string ⟨#[45]⟩, .agg #[.int .i64 2, .int .i64 0, .string ⟨#[]⟩], .agg #[.int .i64 vk, .int .i64 vn, .string vs]] W fun e w' => e = .returned (.tuple #[vvV R.1, .int .i64 R.2]) /\ Below W.heap.size W w') := fun W => by
    have h := rreckon_walk minusB 2 0 ⟨#[]⟩ vk vn vs (by decide) HF.out.2.1 W
    have hR: R = (reckVv minusB ⟨2,0,⟨#[]⟩⟩ ⟨vk,vn,vs⟩,reckE minusB 2 0 ⟨#[]⟩ vk vn vs) := by
     rw [<- reck_err minusB ⟨2,0,⟨#[]⟩⟩ ⟨vk,vn,vs⟩]; exact HR.out
    rw [hR, <- reckVv_eq minusB ⟨2,0,⟨#[]⟩⟩ ⟨vk,vn,vs⟩]
    exact h
   clear HR HF
   obtain ⟨⟨uk,un,us⟩,c⟩ := R
   unfold vvV valV at HRK
   dsimp only at HRK
   have HE3 := Rw.dh (HE2.out.on (Rw.below_alloc _ (.cells #[.int .i64 vk, .int .i64 vn, .string vs] 44)))
   obtain ⟨m0,m1,m2,m3,m4,m5,m6⟩ := HE3.out.cn
   go_wp2_with fail
   refine (HRK.out _).mono ?_
   rintro e w3 ⟨rfl,hb⟩
   have HE4 := Rw.dh (HE3.out.on hb)
   clear hb HE2 HE3 HRK m0 m1 m2 m3 m4 m5 m6
   obtain ⟨s0,s1,s2,s3,s4,s5⟩ := cells3 HE4.out.r
   go_wp2
   exact bodyPost_ret (v := .tuple #[.agg #[.int .i64 uk, .int .i64 un, .string us], .int .i64 c]) (by simp [results,Try.results103,go_sem,s0,s1,s2]) rfl ⟨rfl,below_set3 (by omega) HE4.out.bel _ _ _⟩
 · have hR: R = (vz,r2) := by rw [HR.out,if_neg (by simpa using hc)]
   subst hR
   clear HR HF
   have HE3 := Rw.dh (HE2.out.on (Rw.below_alloc _ (.cells #[.int .i64 vk, .int .i64 vn, .string vs] 44)))
   clear HE2
   obtain ⟨s0,s1,s2,s3,s4,s5⟩ := cells3 HE3.out.r
   obtain ⟨z0,z1,z2,z3,z4,z5⟩ := cells3 HE3.out.z
   go_wp2
   exact bodyPost_ret (v := .tuple #[.agg #[.int .i64 0, .int .i64 0, .string ⟨#[]⟩], .int .i64 r2]) (by simp [results,Try.results103,go_sem,s0,s1,s2]) rfl ⟨rfl,below_set3 (by omega) HE3.out.bel _ _ _⟩
theorem reval_not {k0: NL} (ho: xo.toList = nNOT) (IH0: REvIH n ra rs rc) (hR: RowsIn w ra rs) (hS: Rw.SlG nC 7 w xa [k0]) (hI0: InN n w k0) (hd0: deepN n k0 = false) :
 Calls Try.prog 103 #[nV (.mk xo xk xn xs xv xc xa xp [k0]), .slice ra rs.length rc] w (RvP (oneE xo.toList (evN n rs k0)) w) := by
 have HT: Hid (∀ W,Calls Try.prog 39 #[.string xo] W fun e w' => e = .returned (.bool false) /\ Below W.heap.size W w') := fun W => by
  rw [show false = isTwoN xo by rw [isTwoN,ho]; rfl]; exact ntwo_walk xo W
 have q0: (xo.toList == [118,97,108,117,101]) = false := by rw [ho]; rfl
 have q1: (xo.toList == [99,111,108,117,109,110]) = false := by rw [ho]; rfl
 have q2: (xo.toList == [110,101,103]) = false := by rw [ho]; rfl
 have q3: (xo.toList == [110,111,116]) = true := by rw [ho]; rfl
 have q4: (xo.toList == [110,117,108,108]) = false := by rw [ho]; rfl
 have IH := Rw.dh (fun W (hb: Below w.heap.size w W) => IH0 k0 W (hI0.on hb) hd0 (hR.on hb))
 have HS := Rw.dh (fun W (hb: Below w.heap.size w W) => hS.below hb)
 obtain ⟨R,hRR⟩: ∃ R,R = oneE xo.toList (evN n rs k0) := ⟨_,rfl⟩
 rw [<- hRR]
 unfold oneE at hRR
 rw [ho] at hRR
 have HR := Rw.dh hRR
 unfold nV
 unfold nV at IH
 dsimp only [NL.op,NL.vk,NL.vn,NL.vs,NL.var,NL.col,NL.a,NL.c,NL.kids,List.length_cons,List.length_nil]
 clear ho IH0 hR hS hI0 hd0 hRR
 generalize evN n rs k0 = r0 at *
 go_enter Try.func103,Try.ntmps103
 go_wp2_with fail
 refine (HT.out _).mono ?_
 rintro e w1 ⟨rfl,hb⟩
 have HE := Rw.dh (Rbx.on (xo := xo) (xk := xk) (xn := xn) (xs := xs) (xv := xv) (xc := xc) (xa := xa) (k := 1) (xp := xp) Rbx.new0 hb)
 clear hb HT
 obtain ⟨n0,n1,n2,n3,n4,n5,n6⟩ := HE.out.cn
 obtain ⟨b,o,x0,rfl,hb,hx,hc⟩ := (HS.out _ HE.out.bel).at (j := 0) (by simp)
 obtain rfl: k0 = x0 := by simpa using hx
 have c0: w1.cell? ⟨b,o,none⟩ = some (.string k0.op) := by simpa using hc 0 _ rfl
 have c1: w1.cell? ⟨b,o + 1,none⟩ = some (.int .i64 k0.vk) := by simpa using hc 1 _ rfl
 have c2: w1.cell? ⟨b,o + 2,none⟩ = some (.int .i64 k0.vn) := by simpa using hc 2 _ rfl
 have c3: w1.cell? ⟨b,o + 3,none⟩ = some (.string k0.vs) := by simpa using hc 3 _ rfl
 have c4: w1.cell? ⟨b,o + 4,none⟩ = some (.int .i64 k0.var) := by simpa using hc 4 _ rfl
 have c5: w1.cell? ⟨b,o + 5,none⟩ = some (.int .i64 k0.col) := by simpa using hc 5 _ rfl
 have c6: w1.cell? ⟨b,o + 6,none⟩ = some (.slice k0.a k0.kids.length k0.c) := by simpa using hc 6 _ rfl
 clear hc hx hb
 go_wp2_with fail
 refine (IH.out _ HE.out.bel).mono ?_
 rintro e w2 ⟨rfl,hb⟩
 have HE2 := Rw.dh (HE.out.on hb)
 clear hb HE IH c0 c1 c2 c3 c4 c5 c6 n0 n1 n2 n3 n4 n5 n6
 obtain ⟨⟨vk,vn,vs⟩,r2⟩ := r0
 unfold vvV valV
 cases hc: (r2 != 0)
 · obtain rfl: r2 = 0 := by simpa using hc
   have HRT := Rw.dh (fun W => rtruth_walk vk vn vs W)
   have HR1: Hid (R = if truthE vk vn == 0 then (ofVv (tNot (truthT vk vn)),0) else (vz,truthE vk vn)) := HR.out
   clear HR hc
   have HE3 := Rw.dh (HE2.out.on (Rw.below_alloc _ (.cells #[.int .i64 vk, .int .i64 vn, .string vs] 44)))
   obtain ⟨m0,m1,m2,m3,m4,m5,m6⟩ := HE3.out.cn
   unfold valV at HRT
   generalize truthT vk vn = t at HRT HR1
   generalize truthE vk vn = c at HRT HR1
   go_wp2_with fail
   refine (HRT.out _).mono ?_
   rintro e w3 ⟨rfl,hb⟩
   have HE4 := Rw.dh (HE3.out.on hb)
   clear hb HE2 HE3 HRT m0 m1 m2 m3 m4 m5 m6
   obtain ⟨m0,m1,m2,m3,m4,m5,m6⟩ := HE4.out.cn
   cases hc: (c != 0)
   · obtain rfl: c = 0 := by simpa using hc
     have hR: R = (ofVv (tNot t),0) := HR1.out
     subst hR
     clear HR1
     have HO := Rw.dh (fun W => rof_walk (tNot t) (tNot_range t) W)
     go_wp2_with (go_at_call 138; refine (rnot_walk _ _).mono ?_; rintro e w' ⟨rfl,rfl⟩)
     refine (HO.out _).mono ?_
     rintro e w5 ⟨rfl,hb⟩
     have HE5 := Rw.dh (HE4.out.on hb)
     clear hb HE4 HO m0 m1 m2 m3 m4 m5 m6
     generalize ofVv (tNot t) = r at *
     obtain ⟨uk,un,us⟩ := r
     unfold vvV valV
     obtain ⟨s0,s1,s2,s3,s4,s5⟩ := cells3 HE5.out.r
     go_wp2
     exact bodyPost_ret (v := .tuple #[.agg #[.int .i64 uk, .int .i64 un, .string us], .int .i64 0]) (by simp [results,Try.results103,go_sem,s0,s1,s2]) rfl ⟨rfl,below_set3 (by omega) HE5.out.bel _ _ _⟩
   · have hR: R = (vz,c) := by rw [HR1.out,if_neg (by simpa using hc)]
     subst hR
     clear HR1
     obtain ⟨s0,s1,s2,s3,s4,s5⟩ := cells3 HE4.out.r
     obtain ⟨z0,z1,z2,z3,z4,z5⟩ := cells3 HE4.out.z
     go_wp2
     exact bodyPost_ret (v := .tuple #[.agg #[.int .i64 0, .int .i64 0, .string ⟨#[]⟩], .int .i64 c]) (by simp [results,Try.results103,go_sem,s0,s1,s2]) rfl ⟨rfl,below_set3 (by omega) HE4.out.bel _ _ _⟩
 · have hR: R = (vz,r2) := by rw [HR.out,if_neg (by simpa using hc)]
   subst hR
   clear HR
   have HE3 := Rw.dh (HE2.out.on (Rw.below_alloc _ (.cells #[.int .i64 vk, .int .i64 vn, .string vs] 44)))
   clear HE2
   obtain ⟨s0,s1,s2,s3,s4,s5⟩ := cells3 HE3.out.r
   obtain ⟨z0,z1,z2,z3,z4,z5⟩ := cells3 HE3.out.z
   go_wp2
   exact bodyPost_ret (v := .tuple #[.agg #[.int .i64 0, .int .i64 0, .string ⟨#[]⟩], .int .i64 r2]) (by simp [results,Try.results103,go_sem,s0,s1,s2]) rfl ⟨rfl,below_set3 (by omega) HE3.out.bel _ _ _⟩
theorem reval_null {k0: NL} (ho: xo.toList = nNULL) (IH0: REvIH n ra rs rc) (hR: RowsIn w ra rs) (hS: Rw.SlG nC 7 w xa [k0]) (hI0: InN n w k0) (hd0: deepN n k0 = false) :
 Calls Try.prog 103 #[nV (.mk xo xk xn xs xv xc xa xp [k0]), .slice ra rs.length rc] w (RvP (oneE xo.toList (evN n rs k0)) w) := by
 have HT: Hid (∀ W,Calls Try.prog 39 #[.string xo] W fun e w' => e = .returned (.bool false) /\ Below W.heap.size W w') := fun W => by
  rw [show false = isTwoN xo by rw [isTwoN,ho]; rfl]; exact ntwo_walk xo W
 have q0: (xo.toList == [118,97,108,117,101]) = false := by rw [ho]; rfl
 have q1: (xo.toList == [99,111,108,117,109,110]) = false := by rw [ho]; rfl
 have q2: (xo.toList == [110,101,103]) = false := by rw [ho]; rfl
 have q3: (xo.toList == [110,111,116]) = false := by rw [ho]; rfl
 have q4: (xo.toList == [110,117,108,108]) = true := by rw [ho]; rfl
 have IH := Rw.dh (fun W (hb: Below w.heap.size w W) => IH0 k0 W (hI0.on hb) hd0 (hR.on hb))
 have HS := Rw.dh (fun W (hb: Below w.heap.size w W) => hS.below hb)
 obtain ⟨R,hRR⟩: ∃ R,R = oneE xo.toList (evN n rs k0) := ⟨_,rfl⟩
 rw [<- hRR]
 unfold oneE at hRR
 rw [ho] at hRR
 have HR := Rw.dh hRR
 unfold nV
 unfold nV at IH
 dsimp only [NL.op,NL.vk,NL.vn,NL.vs,NL.var,NL.col,NL.a,NL.c,NL.kids,List.length_cons,List.length_nil]
 clear ho IH0 hR hS hI0 hd0 hRR
 generalize evN n rs k0 = r0 at *
 go_enter Try.func103,Try.ntmps103
 go_wp2_with fail
 refine (HT.out _).mono ?_
 rintro e w1 ⟨rfl,hb⟩
 have HE := Rw.dh (Rbx.on (xo := xo) (xk := xk) (xn := xn) (xs := xs) (xv := xv) (xc := xc) (xa := xa) (k := 1) (xp := xp) Rbx.new0 hb)
 clear hb HT
 obtain ⟨n0,n1,n2,n3,n4,n5,n6⟩ := HE.out.cn
 obtain ⟨b,o,x0,rfl,hb,hx,hc⟩ := (HS.out _ HE.out.bel).at (j := 0) (by simp)
 obtain rfl: k0 = x0 := by simpa using hx
 have c0: w1.cell? ⟨b,o,none⟩ = some (.string k0.op) := by simpa using hc 0 _ rfl
 have c1: w1.cell? ⟨b,o + 1,none⟩ = some (.int .i64 k0.vk) := by simpa using hc 1 _ rfl
 have c2: w1.cell? ⟨b,o + 2,none⟩ = some (.int .i64 k0.vn) := by simpa using hc 2 _ rfl
 have c3: w1.cell? ⟨b,o + 3,none⟩ = some (.string k0.vs) := by simpa using hc 3 _ rfl
 have c4: w1.cell? ⟨b,o + 4,none⟩ = some (.int .i64 k0.var) := by simpa using hc 4 _ rfl
 have c5: w1.cell? ⟨b,o + 5,none⟩ = some (.int .i64 k0.col) := by simpa using hc 5 _ rfl
 have c6: w1.cell? ⟨b,o + 6,none⟩ = some (.slice k0.a k0.kids.length k0.c) := by simpa using hc 6 _ rfl
 clear hc hx hb
 go_wp2_with fail
 refine (IH.out _ HE.out.bel).mono ?_
 rintro e w2 ⟨rfl,hb⟩
 have HE2 := Rw.dh (HE.out.on hb)
 clear hb HE IH c0 c1 c2 c3 c4 c5 c6 n0 n1 n2 n3 n4 n5 n6
 obtain ⟨⟨vk,vn,vs⟩,r2⟩ := r0
 unfold vvV valV
 cases hc: (r2 != 0)
 · obtain rfl: r2 = 0 := by simpa using hc
   have HR1: Hid (R = (ofVv (if isZ ⟨vk,vn,vs⟩ then 1 else 0),0)) := HR.out
   clear HR hc
   have HE3 := Rw.dh (HE2.out.on (Rw.below_alloc _ (.cells #[.int .i64 vk, .int .i64 vn, .string vs] 44)))
   obtain ⟨m0,m1,m2,m3,m4,m5,m6⟩ := HE3.out.cn
   obtain ⟨z0,z1,z2,z3,z4,z5⟩ := cells3 HE3.out.z
   have hz: isZ ⟨vk,vn,vs⟩ = (vk == 0 && vn == 0 && vs.toList == []) := rfl
   rw [hz] at HR1
   clear hz
   cases h1: (vk == 0) <;> cases h2: (vn == 0) <;> cases h3: (vs.toList == []) <;> rw [h1,h2,h3] at HR1
   case true.true.true =>
    have hR: R = (ofVv 1,0) := HR1.out
    subst hR
    clear HR1
    have HO := Rw.dh (fun W => rof_walk 1 (by decide) W)
    go_wp2_with fail
    refine (HO.out _).mono ?_
    rintro e w5 ⟨rfl,hb⟩
    have HE5 := Rw.dh (HE3.out.on hb)
    clear hb HE3 HE2 HO m0 m1 m2 m3 m4 m5 m6 z0 z1 z2 z3 z4 z5
    generalize ofVv 1 = r at *
    obtain ⟨uk,un,us⟩ := r
    unfold vvV valV
    obtain ⟨s0,s1,s2,s3,s4,s5⟩ := cells3 HE5.out.r
    go_wp2
    exact bodyPost_ret (v := .tuple #[.agg #[.int .i64 uk, .int .i64 un, .string us], .int .i64 0]) (by simp [results,Try.results103,go_sem,s0,s1,s2]) rfl ⟨rfl,below_set3 (by omega) HE5.out.bel _ _ _⟩
   all_goals
    have hR: R = (ofVv 0,0) := HR1.out
    subst hR
    clear HR1
    have HO := Rw.dh (fun W => rof_walk 0 (by decide) W)
    go_wp2_with fail
    refine (HO.out _).mono ?_
    rintro e w5 ⟨rfl,hb⟩
    have HE5 := Rw.dh (HE3.out.on hb)
    clear hb HE3 HE2 HO m0 m1 m2 m3 m4 m5 m6 z0 z1 z2 z3 z4 z5
    generalize ofVv 0 = r at *
    obtain ⟨uk,un,us⟩ := r
    unfold vvV valV
    obtain ⟨s0,s1,s2,s3,s4,s5⟩ := cells3 HE5.out.r
    go_wp2
    exact bodyPost_ret (v := .tuple #[.agg #[.int .i64 uk, .int .i64 un, .string us], .int .i64 0]) (by simp [results,Try.results103,go_sem,s0,s1,s2]) rfl ⟨rfl,below_set3 (by omega) HE5.out.bel _ _ _⟩
 · have hR: R = (vz,r2) := by rw [HR.out,if_neg (by simpa using hc)]
   subst hR
   clear HR
   have HE3 := Rw.dh (HE2.out.on (Rw.below_alloc _ (.cells #[.int .i64 vk, .int .i64 vn, .string vs] 44)))
   clear HE2
   obtain ⟨s0,s1,s2,s3,s4,s5⟩ := cells3 HE3.out.r
   obtain ⟨z0,z1,z2,z3,z4,z5⟩ := cells3 HE3.out.z
   go_wp2
   exact bodyPost_ret (v := .tuple #[.agg #[.int .i64 0, .int .i64 0, .string ⟨#[]⟩], .int .i64 r2]) (by simp [results,Try.results103,go_sem,s0,s1,s2]) rfl ⟨rfl,below_set3 (by omega) HE3.out.bel _ _ _⟩
end
end Go.Proofs.Ytdaikppppkbfoaa
