import Derived.Test.YteibhbnlcpejpaaGreatMAX
set_option maxRecDepth 100000
set_option maxHeartbeats 4000000
namespace Go.Proofs.YteibhbnlcpejpaaGreat
open Go.RowKit
theorem trE_no {a: VE} (h: (a.2 != 0) = true): trE a = (0,a.2) := by
 unfold trE
 rw [if_neg (by simpa using h)]
theorem both_no {s: Int} {j: Int -> Int -> Int} {a b: VE} {t c: Int} (h: trE a = (t,c)) (hc: (c != 0) = true): evBoth s j a b = (vz,c) := by
 unfold evBoth
 rw [h,if_neg (by simpa using hc)]
theorem both_set {s: Int} {j: Int -> Int -> Int} {a b: VE} {t: Int} (h: trE a = (t,0)) (ht: (t == s) = true): evBoth s j a b = (ofVv t,0) := by
 unfold evBoth
 rw [h]
 show (if t == s then (ofVv t,0) else _) = _
 rw [if_pos ht]
theorem both_no2 {s: Int} {j: Int -> Int -> Int} {a b: VE} {t u c: Int} (h: trE a = (t,0)) (ht: (t == s) = false) (h1: trE b = (u,c)) (hc: (c != 0) = true): evBoth s j a b = (vz,c) := by
 unfold evBoth
 rw [h,h1]
 show (if t == s then (ofVv t,0) else if c == 0 then _ else _) = _
 rw [if_neg (by simpa using ht),if_neg (by simpa using hc)]
theorem both_yes {s: Int} {j: Int -> Int -> Int} {a b: VE} {t u: Int} (h: trE a = (t,0)) (ht: (t == s) = false) (h1: trE b = (u,0)): evBoth s j a b = (ofVv (j t u),0) := by
 unfold evBoth
 rw [h,h1]
 show (if t == s then (ofVv t,0) else (ofVv (j t u),0)) = _
 rw [if_neg (by simpa using ht)]
section
variable {w W: World} {n: Nat} {ra: Option Addr} {rs: List RowL} {m rc: Nat} {xo: ByteArray} {xk xn: Int} {xs: ByteArray} {xv xc: Int} {xa: Option Addr} {k xp: Nat} {l: List NL}
theorem reval_and {k0 k1: NL} (ho: xo.toList = nAND) (IH0: REvIH n ra rs rc) (hR: RowsIn w ra rs) (hS: Rw.SlG nC 7 w xa [k0,k1]) (hI0: InN n w k0) (hd0: deepN n k0 = false) (hI1: InN n w k1) (hd1: deepN n k1 = false) :
 Calls Tryz.prog 88 #[nV (.mk xo xk xn xs xv xc xa xp [k0,k1]), .slice ra rs.length rc] w (RvP (evBoth 0 tAnd (evN n rs k0) (evN n rs k1)) w) := by
 have HT: Hid (∀ W,Calls Tryz.prog 67 #[.string xo] W fun e w' => e = .returned (.bool true) /\ Below W.heap.size W w') := fun W => by
  rw [show true = isTwoN xo by rw [isTwoN,ho]; rfl]; exact ntwo_walk xo W
 have q0: (xo.toList == [118,97,108,117,101]) = false := by rw [ho]; rfl
 have q1: (xo.toList == [99,111,108,117,109,110]) = false := by rw [ho]; rfl
 have q2: (xo.toList == [110,101,103]) = false := by rw [ho]; rfl
 have q3: (xo.toList == [110,111,116]) = false := by rw [ho]; rfl
 have q4: (xo.toList == [110,117,108,108]) = false := by rw [ho]; rfl
 have q5: (xo.toList == [97,110,100]) = true := by rw [ho]; rfl
 have q6: (xo.toList == [111,114]) = false := by rw [ho]; rfl
 have IH := Rw.dh (fun W (hb: Below w.heap.size w W) => IH0 k0 W (hI0.on hb) hd0 (hR.on hb))
 have IH1 := Rw.dh (fun W (hb: Below w.heap.size w W) => IH0 k1 W (hI1.on hb) hd1 (hR.on hb))
 have HS := Rw.dh (fun W (hb: Below w.heap.size w W) => hS.below hb)
 obtain ⟨R,hRR⟩: ∃ R,R = evBoth 0 tAnd (evN n rs k0) (evN n rs k1) := ⟨_,rfl⟩
 rw [<- hRR]
 have HR := Rw.dh hRR
 have HT1 := Rw.dh (fun (a b: Int) W => rand_walk a b W)
 unfold nV
 unfold nV at IH IH1
 dsimp only [NL.op,NL.vk,NL.vn,NL.vs,NL.var,NL.col,NL.a,NL.c,NL.kids,List.length_cons,List.length_nil]
 clear ho IH0 hR hS hI0 hd0 hI1 hd1 hRR
 generalize evN n rs k0 = r0 at *
 generalize evN n rs k1 = q0 at *
 go_enter Tryz.func88,Tryz.ntmps88
 go_wp2_with fail
 refine (HT.out _).mono ?_
 rintro e w1 ⟨rfl,hb⟩
 have HE := Rw.dh (Rbx.on (xo := xo) (xk := xk) (xn := xn) (xs := xs) (xv := xv) (xc := xc) (xa := xa) (k := 2) (xp := xp) Rbx.new0 hb)
 clear hb HT
 obtain ⟨n0,n1,n2,n3,n4,n5,n6⟩ := HE.out.cn
 obtain ⟨b,o,x0,rfl,hb,hx,hc⟩ := (HS.out _ HE.out.bel).at (j := 0) (by simp)
 obtain rfl: k0 = x0 := by simpa using hx
 have c0: w1.cell? ⟨b,o,none⟩ = some (.string k0.op) := by simpa using hc 0 _ rfl
 have c1: w1.cell? ⟨b,o + 1,none⟩ = some (.int .i64 k0.vk) := by simpa using hc 1 _ rfl
 have c2: w1.cell? ⟨b,o + 2,none⟩ = some (.int .i64 k0.vn) := by simpa using hc 2 _ rfl
 have c3: w1.cell? ⟨b,o + 3,none⟩ = some (.string k0.vs) := by simpa using hc 3 _ rfl
 have c4: w1.cell? ⟨b,o + 4,none⟩ = some (.int .i64 k0.var) := by simpa using hc 4 _ rfl
 have c5: w1.cell? ⟨b,o + 5,none⟩ = some (.int .i64 k0.col) := by simpa using hc 5 _ rfl
 have c6: w1.cell? ⟨b,o + 6,none⟩ = some (.slice k0.a k0.kids.length k0.c) := by simpa using hc 6 _ rfl
 clear hc hx hb
 go_wp2_with fail
 refine (IH.out _ HE.out.bel).mono ?_
 rintro e w2 ⟨rfl,hb⟩
 have HE2 := Rw.dh (HE.out.on hb)
 clear hb HE IH c0 c1 c2 c3 c4 c5 c6 n0 n1 n2 n3 n4 n5 n6
 obtain ⟨⟨vk,vn,vs⟩,r2⟩ := r0
 unfold vvV valV
 cases hc: (r2 != 0)
 · obtain rfl: r2 = 0 := by simpa using hc
   have HRT := Rw.dh (fun k n s W => rtruth_walk k n s W)
   unfold valV at HRT
   clear hc
   have HE3 := Rw.dh (HE2.out.on (Rw.below_alloc _ (.cells #[.int .i64 vk, .int .i64 vn, .string vs] 27)))
   obtain ⟨m0,m1,m2,m3,m4,m5,m6⟩ := HE3.out.cn
   go_wp2_with fail
   refine (HRT.out vk vn vs _).mono ?_
   rintro e w3 ⟨rfl,hb⟩
   have HE4 := Rw.dh (HE3.out.on hb)
   clear hb HE2 HE3 m0 m1 m2 m3 m4 m5 m6
   have ht := truthT_range vk vn
   have HB: Hid (∀ c,truthE vk vn = c -> trE (⟨vk,vn,vs⟩,0) = if c == 0 then (truthT vk vn,0) else (0,c)) := fun c hc => by rw [<- hc]; rfl
   generalize truthT vk vn = t at *
   generalize truthE vk vn = c at *
   cases hc: (c != 0)
   · obtain rfl: c = 0 := by simpa using hc
     have HA: Hid (trE (⟨vk,vn,vs⟩,0) = (t,0)) := HB.out 0 rfl
     have HO := Rw.dh (fun t h W => rof_walk t h W)
     clear HB hc
     obtain ⟨m0,m1,m2,m3,m4,m5,m6⟩ := HE4.out.cn
     cases hs: (t == 0)
     · skip
       obtain ⟨n0,n1,n2,n3,n4,n5,n6⟩ := HE4.out.cn
       obtain ⟨b',o',x1,hbo,hb,hx,hc⟩ := (HS.out _ HE4.out.bel).at (j := 1) (by simp)
       obtain ⟨rfl,rfl⟩: b' = b /\ o' = o := by
        have := Option.some.inj hbo
        exact ⟨(congrArg Addr.block this).symm,(congrArg Addr.off this).symm⟩
       obtain rfl: k1 = x1 := by simpa using hx
       have c0: w3.cell? ⟨b',o' + 7,none⟩ = some (.string k1.op) := by simpa using hc 0 _ rfl
       have c1: w3.cell? ⟨b',o' + 7 + 1,none⟩ = some (.int .i64 k1.vk) := by simpa using hc 1 _ rfl
       have c2: w3.cell? ⟨b',o' + 7 + 2,none⟩ = some (.int .i64 k1.vn) := by simpa using hc 2 _ rfl
       have c3: w3.cell? ⟨b',o' + 7 + 3,none⟩ = some (.string k1.vs) := by simpa using hc 3 _ rfl
       have c4: w3.cell? ⟨b',o' + 7 + 4,none⟩ = some (.int .i64 k1.var) := by simpa using hc 4 _ rfl
       have c5: w3.cell? ⟨b',o' + 7 + 5,none⟩ = some (.int .i64 k1.col) := by simpa using hc 5 _ rfl
       have c6: w3.cell? ⟨b',o' + 7 + 6,none⟩ = some (.slice k1.a k1.kids.length k1.c) := by simpa using hc 6 _ rfl
       clear hc hx hb hbo
       go_wp2_with fail
       refine (IH1.out _ HE4.out.bel).mono ?_
       rintro e w5 ⟨rfl,hb⟩
       have HE5 := Rw.dh (HE4.out.on hb)
       clear hb HE4 IH1 c0 c1 c2 c3 c4 c5 c6 n0 n1 n2 n3 n4 n5 n6 m0 m1 m2 m3 m4 m5 m6
       obtain ⟨⟨bk,bn,bs⟩,q2⟩ := q0
       unfold vvV valV
       cases hc: (q2 != 0)
       · obtain rfl: q2 = 0 := by simpa using hc
         clear hc
         have HE6 := Rw.dh (HE5.out.on (Rw.below_alloc _ (.cells #[.int .i64 bk, .int .i64 bn, .string bs] 27)))
         go_wp2_with fail
         refine (HRT.out bk bn bs _).mono ?_
         rintro e w7 ⟨rfl,hb⟩
         have HE7 := Rw.dh (HE6.out.on hb)
         clear hb HE5 HE6
         have HB: Hid (∀ c,truthE bk bn = c -> trE (⟨bk,bn,bs⟩,0) = if c == 0 then (truthT bk bn,0) else (0,c)) := fun c hc => by rw [<- hc]; rfl
         generalize truthT bk bn = u at *
         generalize truthE bk bn = c at *
         obtain ⟨m0,m1,m2,m3,m4,m5,m6⟩ := HE7.out.cn
         cases hc: (c != 0)
         · obtain rfl: c = 0 := by simpa using hc
           have hR: R = (ofVv (tAnd t u),0) := by rw [HR.out]; exact both_yes HA.out hs (HB.out 0 rfl)
           subst hR
           clear HR HB
           go_wp2_with (go_at_call 127; refine (HT1.out _ _ _).mono ?_; rintro e w' ⟨rfl,rfl⟩)
           refine (HO.out _ (tAnd_range _ _) _).mono ?_
           rintro e w8 ⟨rfl,hb⟩
           have HE8 := Rw.dh (HE7.out.on hb)
           clear hb HE7 m0 m1 m2 m3 m4 m5 m6
           generalize ofVv (tAnd t u) = r at *
           obtain ⟨uk,un,us⟩ := r
           unfold vvV valV
           obtain ⟨s0,s1,s2,s3,s4,s5⟩ := cells3 HE8.out.r
           go_wp2
           exact bodyPost_ret (v := .tuple #[.agg #[.int .i64 uk, .int .i64 un, .string us], .int .i64 0]) (by simp [results,Tryz.results88,go_sem,s0,s1,s2]) rfl ⟨rfl,below_set3 (by omega) HE8.out.bel _ _ _⟩
         · have hR: R = (vz,c) := by rw [HR.out]; exact both_no2 HA.out hs ((HB.out c rfl).trans (if_neg (by simpa using hc))) hc
           subst hR
           clear HR HB
           obtain ⟨s0,s1,s2,s3,s4,s5⟩ := cells3 HE7.out.r
           obtain ⟨z0,z1,z2,z3,z4,z5⟩ := cells3 HE7.out.z
           go_wp2
           exact bodyPost_ret (v := .tuple #[.agg #[.int .i64 0, .int .i64 0, .string ⟨#[]⟩], .int .i64 c]) (by simp [results,Tryz.results88,go_sem,s0,s1,s2]) rfl ⟨rfl,below_set3 (by omega) HE7.out.bel _ _ _⟩
       · have hR: R = (vz,q2) := by rw [HR.out]; exact both_no2 HA.out hs (trE_no (a := (⟨bk,bn,bs⟩,q2)) hc) hc
         subst hR
         clear HR
         have HE6 := Rw.dh (HE5.out.on (Rw.below_alloc _ (.cells #[.int .i64 bk, .int .i64 bn, .string bs] 27)))
         clear HE5
         obtain ⟨s0,s1,s2,s3,s4,s5⟩ := cells3 HE6.out.r
         obtain ⟨z0,z1,z2,z3,z4,z5⟩ := cells3 HE6.out.z
         go_wp2
         exact bodyPost_ret (v := .tuple #[.agg #[.int .i64 0, .int .i64 0, .string ⟨#[]⟩], .int .i64 q2]) (by simp [results,Tryz.results88,go_sem,s0,s1,s2]) rfl ⟨rfl,below_set3 (by omega) HE6.out.bel _ _ _⟩
     · have hR: R = (ofVv t,0) := by rw [HR.out]; exact both_set HA.out hs
       subst hR
       clear HR
       go_wp2_with fail
       refine (HO.out _ ht _).mono ?_
       rintro e w5 ⟨rfl,hb⟩
       have HE5 := Rw.dh (HE4.out.on hb)
       clear hb HE4 m0 m1 m2 m3 m4 m5 m6
       generalize ofVv t = r at *
       obtain ⟨uk,un,us⟩ := r
       unfold vvV valV
       obtain ⟨s0,s1,s2,s3,s4,s5⟩ := cells3 HE5.out.r
       go_wp2
       exact bodyPost_ret (v := .tuple #[.agg #[.int .i64 uk, .int .i64 un, .string us], .int .i64 0]) (by simp [results,Tryz.results88,go_sem,s0,s1,s2]) rfl ⟨rfl,below_set3 (by omega) HE5.out.bel _ _ _⟩
   · have hR: R = (vz,c) := by rw [HR.out]; exact both_no ((HB.out c rfl).trans (if_neg (by simpa using hc))) hc
     subst hR
     clear HR HB
     obtain ⟨s0,s1,s2,s3,s4,s5⟩ := cells3 HE4.out.r
     obtain ⟨z0,z1,z2,z3,z4,z5⟩ := cells3 HE4.out.z
     go_wp2
     exact bodyPost_ret (v := .tuple #[.agg #[.int .i64 0, .int .i64 0, .string ⟨#[]⟩], .int .i64 c]) (by simp [results,Tryz.results88,go_sem,s0,s1,s2]) rfl ⟨rfl,below_set3 (by omega) HE4.out.bel _ _ _⟩
 · have hR: R = (vz,r2) := by rw [HR.out]; exact both_no (trE_no (a := (⟨vk,vn,vs⟩,r2)) hc) hc
   subst hR
   clear HR
   have HE3 := Rw.dh (HE2.out.on (Rw.below_alloc _ (.cells #[.int .i64 vk, .int .i64 vn, .string vs] 27)))
   clear HE2
   obtain ⟨s0,s1,s2,s3,s4,s5⟩ := cells3 HE3.out.r
   obtain ⟨z0,z1,z2,z3,z4,z5⟩ := cells3 HE3.out.z
   go_wp2
   exact bodyPost_ret (v := .tuple #[.agg #[.int .i64 0, .int .i64 0, .string ⟨#[]⟩], .int .i64 r2]) (by simp [results,Tryz.results88,go_sem,s0,s1,s2]) rfl ⟨rfl,below_set3 (by omega) HE3.out.bel _ _ _⟩
theorem reval_or {k0 k1: NL} (ho: xo.toList = nOR) (IH0: REvIH n ra rs rc) (hR: RowsIn w ra rs) (hS: Rw.SlG nC 7 w xa [k0,k1]) (hI0: InN n w k0) (hd0: deepN n k0 = false) (hI1: InN n w k1) (hd1: deepN n k1 = false) :
 Calls Tryz.prog 88 #[nV (.mk xo xk xn xs xv xc xa xp [k0,k1]), .slice ra rs.length rc] w (RvP (evBoth 1 tOr (evN n rs k0) (evN n rs k1)) w) := by
 have HT: Hid (∀ W,Calls Tryz.prog 67 #[.string xo] W fun e w' => e = .returned (.bool true) /\ Below W.heap.size W w') := fun W => by
  rw [show true = isTwoN xo by rw [isTwoN,ho]; rfl]; exact ntwo_walk xo W
 have q0: (xo.toList == [118,97,108,117,101]) = false := by rw [ho]; rfl
 have q1: (xo.toList == [99,111,108,117,109,110]) = false := by rw [ho]; rfl
 have q2: (xo.toList == [110,101,103]) = false := by rw [ho]; rfl
 have q3: (xo.toList == [110,111,116]) = false := by rw [ho]; rfl
 have q4: (xo.toList == [110,117,108,108]) = false := by rw [ho]; rfl
 have q5: (xo.toList == [97,110,100]) = false := by rw [ho]; rfl
 have q6: (xo.toList == [111,114]) = true := by rw [ho]; rfl
 have IH := Rw.dh (fun W (hb: Below w.heap.size w W) => IH0 k0 W (hI0.on hb) hd0 (hR.on hb))
 have IH1 := Rw.dh (fun W (hb: Below w.heap.size w W) => IH0 k1 W (hI1.on hb) hd1 (hR.on hb))
 have HS := Rw.dh (fun W (hb: Below w.heap.size w W) => hS.below hb)
 obtain ⟨R,hRR⟩: ∃ R,R = evBoth 1 tOr (evN n rs k0) (evN n rs k1) := ⟨_,rfl⟩
 rw [<- hRR]
 have HR := Rw.dh hRR
 have HT1 := Rw.dh (fun (a b: Int) W => ror_walk a b W)
 unfold nV
 unfold nV at IH IH1
 dsimp only [NL.op,NL.vk,NL.vn,NL.vs,NL.var,NL.col,NL.a,NL.c,NL.kids,List.length_cons,List.length_nil]
 clear ho IH0 hR hS hI0 hd0 hI1 hd1 hRR
 generalize evN n rs k0 = r0 at *
 generalize evN n rs k1 = q0 at *
 go_enter Tryz.func88,Tryz.ntmps88
 go_wp2_with fail
 refine (HT.out _).mono ?_
 rintro e w1 ⟨rfl,hb⟩
 have HE := Rw.dh (Rbx.on (xo := xo) (xk := xk) (xn := xn) (xs := xs) (xv := xv) (xc := xc) (xa := xa) (k := 2) (xp := xp) Rbx.new0 hb)
 clear hb HT
 obtain ⟨n0,n1,n2,n3,n4,n5,n6⟩ := HE.out.cn
 obtain ⟨b,o,x0,rfl,hb,hx,hc⟩ := (HS.out _ HE.out.bel).at (j := 0) (by simp)
 obtain rfl: k0 = x0 := by simpa using hx
 have c0: w1.cell? ⟨b,o,none⟩ = some (.string k0.op) := by simpa using hc 0 _ rfl
 have c1: w1.cell? ⟨b,o + 1,none⟩ = some (.int .i64 k0.vk) := by simpa using hc 1 _ rfl
 have c2: w1.cell? ⟨b,o + 2,none⟩ = some (.int .i64 k0.vn) := by simpa using hc 2 _ rfl
 have c3: w1.cell? ⟨b,o + 3,none⟩ = some (.string k0.vs) := by simpa using hc 3 _ rfl
 have c4: w1.cell? ⟨b,o + 4,none⟩ = some (.int .i64 k0.var) := by simpa using hc 4 _ rfl
 have c5: w1.cell? ⟨b,o + 5,none⟩ = some (.int .i64 k0.col) := by simpa using hc 5 _ rfl
 have c6: w1.cell? ⟨b,o + 6,none⟩ = some (.slice k0.a k0.kids.length k0.c) := by simpa using hc 6 _ rfl
 clear hc hx hb
 go_wp2_with fail
 refine (IH.out _ HE.out.bel).mono ?_
 rintro e w2 ⟨rfl,hb⟩
 have HE2 := Rw.dh (HE.out.on hb)
 clear hb HE IH c0 c1 c2 c3 c4 c5 c6 n0 n1 n2 n3 n4 n5 n6
 obtain ⟨⟨vk,vn,vs⟩,r2⟩ := r0
 unfold vvV valV
 cases hc: (r2 != 0)
 · obtain rfl: r2 = 0 := by simpa using hc
   have HRT := Rw.dh (fun k n s W => rtruth_walk k n s W)
   unfold valV at HRT
   clear hc
   have HE3 := Rw.dh (HE2.out.on (Rw.below_alloc _ (.cells #[.int .i64 vk, .int .i64 vn, .string vs] 27)))
   obtain ⟨m0,m1,m2,m3,m4,m5,m6⟩ := HE3.out.cn
   go_wp2_with fail
   refine (HRT.out vk vn vs _).mono ?_
   rintro e w3 ⟨rfl,hb⟩
   have HE4 := Rw.dh (HE3.out.on hb)
   clear hb HE2 HE3 m0 m1 m2 m3 m4 m5 m6
   have ht := truthT_range vk vn
   have HB: Hid (∀ c,truthE vk vn = c -> trE (⟨vk,vn,vs⟩,0) = if c == 0 then (truthT vk vn,0) else (0,c)) := fun c hc => by rw [<- hc]; rfl
   generalize truthT vk vn = t at *
   generalize truthE vk vn = c at *
   cases hc: (c != 0)
   · obtain rfl: c = 0 := by simpa using hc
     have HA: Hid (trE (⟨vk,vn,vs⟩,0) = (t,0)) := HB.out 0 rfl
     have HO := Rw.dh (fun t h W => rof_walk t h W)
     clear HB hc
     obtain ⟨m0,m1,m2,m3,m4,m5,m6⟩ := HE4.out.cn
     cases hs: (t == 1)
     · skip
       obtain ⟨n0,n1,n2,n3,n4,n5,n6⟩ := HE4.out.cn
       obtain ⟨b',o',x1,hbo,hb,hx,hc⟩ := (HS.out _ HE4.out.bel).at (j := 1) (by simp)
       obtain ⟨rfl,rfl⟩: b' = b /\ o' = o := by
        have := Option.some.inj hbo
        exact ⟨(congrArg Addr.block this).symm,(congrArg Addr.off this).symm⟩
       obtain rfl: k1 = x1 := by simpa using hx
       have c0: w3.cell? ⟨b',o' + 7,none⟩ = some (.string k1.op) := by simpa using hc 0 _ rfl
       have c1: w3.cell? ⟨b',o' + 7 + 1,none⟩ = some (.int .i64 k1.vk) := by simpa using hc 1 _ rfl
       have c2: w3.cell? ⟨b',o' + 7 + 2,none⟩ = some (.int .i64 k1.vn) := by simpa using hc 2 _ rfl
       have c3: w3.cell? ⟨b',o' + 7 + 3,none⟩ = some (.string k1.vs) := by simpa using hc 3 _ rfl
       have c4: w3.cell? ⟨b',o' + 7 + 4,none⟩ = some (.int .i64 k1.var) := by simpa using hc 4 _ rfl
       have c5: w3.cell? ⟨b',o' + 7 + 5,none⟩ = some (.int .i64 k1.col) := by simpa using hc 5 _ rfl
       have c6: w3.cell? ⟨b',o' + 7 + 6,none⟩ = some (.slice k1.a k1.kids.length k1.c) := by simpa using hc 6 _ rfl
       clear hc hx hb hbo
       go_wp2_with fail
       refine (IH1.out _ HE4.out.bel).mono ?_
       rintro e w5 ⟨rfl,hb⟩
       have HE5 := Rw.dh (HE4.out.on hb)
       clear hb HE4 IH1 c0 c1 c2 c3 c4 c5 c6 n0 n1 n2 n3 n4 n5 n6 m0 m1 m2 m3 m4 m5 m6
       obtain ⟨⟨bk,bn,bs⟩,q2⟩ := q0
       unfold vvV valV
       cases hc: (q2 != 0)
       · obtain rfl: q2 = 0 := by simpa using hc
         clear hc
         have HE6 := Rw.dh (HE5.out.on (Rw.below_alloc _ (.cells #[.int .i64 bk, .int .i64 bn, .string bs] 27)))
         go_wp2_with fail
         refine (HRT.out bk bn bs _).mono ?_
         rintro e w7 ⟨rfl,hb⟩
         have HE7 := Rw.dh (HE6.out.on hb)
         clear hb HE5 HE6
         have HB: Hid (∀ c,truthE bk bn = c -> trE (⟨bk,bn,bs⟩,0) = if c == 0 then (truthT bk bn,0) else (0,c)) := fun c hc => by rw [<- hc]; rfl
         generalize truthT bk bn = u at *
         generalize truthE bk bn = c at *
         obtain ⟨m0,m1,m2,m3,m4,m5,m6⟩ := HE7.out.cn
         cases hc: (c != 0)
         · obtain rfl: c = 0 := by simpa using hc
           have hR: R = (ofVv (tOr t u),0) := by rw [HR.out]; exact both_yes HA.out hs (HB.out 0 rfl)
           subst hR
           clear HR HB
           go_wp2_with (go_at_call 128; refine (HT1.out _ _ _).mono ?_; rintro e w' ⟨rfl,rfl⟩)
           refine (HO.out _ (tOr_range _ _) _).mono ?_
           rintro e w8 ⟨rfl,hb⟩
           have HE8 := Rw.dh (HE7.out.on hb)
           clear hb HE7 m0 m1 m2 m3 m4 m5 m6
           generalize ofVv (tOr t u) = r at *
           obtain ⟨uk,un,us⟩ := r
           unfold vvV valV
           obtain ⟨s0,s1,s2,s3,s4,s5⟩ := cells3 HE8.out.r
           go_wp2
           exact bodyPost_ret (v := .tuple #[.agg #[.int .i64 uk, .int .i64 un, .string us], .int .i64 0]) (by simp [results,Tryz.results88,go_sem,s0,s1,s2]) rfl ⟨rfl,below_set3 (by omega) HE8.out.bel _ _ _⟩
         · have hR: R = (vz,c) := by rw [HR.out]; exact both_no2 HA.out hs ((HB.out c rfl).trans (if_neg (by simpa using hc))) hc
           subst hR
           clear HR HB
           obtain ⟨s0,s1,s2,s3,s4,s5⟩ := cells3 HE7.out.r
           obtain ⟨z0,z1,z2,z3,z4,z5⟩ := cells3 HE7.out.z
           go_wp2
           exact bodyPost_ret (v := .tuple #[.agg #[.int .i64 0, .int .i64 0, .string ⟨#[]⟩], .int .i64 c]) (by simp [results,Tryz.results88,go_sem,s0,s1,s2]) rfl ⟨rfl,below_set3 (by omega) HE7.out.bel _ _ _⟩
       · have hR: R = (vz,q2) := by rw [HR.out]; exact both_no2 HA.out hs (trE_no (a := (⟨bk,bn,bs⟩,q2)) hc) hc
         subst hR
         clear HR
         have HE6 := Rw.dh (HE5.out.on (Rw.below_alloc _ (.cells #[.int .i64 bk, .int .i64 bn, .string bs] 27)))
         clear HE5
         obtain ⟨s0,s1,s2,s3,s4,s5⟩ := cells3 HE6.out.r
         obtain ⟨z0,z1,z2,z3,z4,z5⟩ := cells3 HE6.out.z
         go_wp2
         exact bodyPost_ret (v := .tuple #[.agg #[.int .i64 0, .int .i64 0, .string ⟨#[]⟩], .int .i64 q2]) (by simp [results,Tryz.results88,go_sem,s0,s1,s2]) rfl ⟨rfl,below_set3 (by omega) HE6.out.bel _ _ _⟩
     · have hR: R = (ofVv t,0) := by rw [HR.out]; exact both_set HA.out hs
       subst hR
       clear HR
       go_wp2_with fail
       refine (HO.out _ ht _).mono ?_
       rintro e w5 ⟨rfl,hb⟩
       have HE5 := Rw.dh (HE4.out.on hb)
       clear hb HE4 m0 m1 m2 m3 m4 m5 m6
       generalize ofVv t = r at *
       obtain ⟨uk,un,us⟩ := r
       unfold vvV valV
       obtain ⟨s0,s1,s2,s3,s4,s5⟩ := cells3 HE5.out.r
       go_wp2
       exact bodyPost_ret (v := .tuple #[.agg #[.int .i64 uk, .int .i64 un, .string us], .int .i64 0]) (by simp [results,Tryz.results88,go_sem,s0,s1,s2]) rfl ⟨rfl,below_set3 (by omega) HE5.out.bel _ _ _⟩
   · have hR: R = (vz,c) := by rw [HR.out]; exact both_no ((HB.out c rfl).trans (if_neg (by simpa using hc))) hc
     subst hR
     clear HR HB
     obtain ⟨s0,s1,s2,s3,s4,s5⟩ := cells3 HE4.out.r
     obtain ⟨z0,z1,z2,z3,z4,z5⟩ := cells3 HE4.out.z
     go_wp2
     exact bodyPost_ret (v := .tuple #[.agg #[.int .i64 0, .int .i64 0, .string ⟨#[]⟩], .int .i64 c]) (by simp [results,Tryz.results88,go_sem,s0,s1,s2]) rfl ⟨rfl,below_set3 (by omega) HE4.out.bel _ _ _⟩
 · have hR: R = (vz,r2) := by rw [HR.out]; exact both_no (trE_no (a := (⟨vk,vn,vs⟩,r2)) hc) hc
   subst hR
   clear HR
   have HE3 := Rw.dh (HE2.out.on (Rw.below_alloc _ (.cells #[.int .i64 vk, .int .i64 vn, .string vs] 27)))
   clear HE2
   obtain ⟨s0,s1,s2,s3,s4,s5⟩ := cells3 HE3.out.r
   obtain ⟨z0,z1,z2,z3,z4,z5⟩ := cells3 HE3.out.z
   go_wp2
   exact bodyPost_ret (v := .tuple #[.agg #[.int .i64 0, .int .i64 0, .string ⟨#[]⟩], .int .i64 r2]) (by simp [results,Tryz.results88,go_sem,s0,s1,s2]) rfl ⟨rfl,below_set3 (by omega) HE3.out.bel _ _ _⟩
end
end Go.Proofs.YteibhbnlcpejpaaGreat
