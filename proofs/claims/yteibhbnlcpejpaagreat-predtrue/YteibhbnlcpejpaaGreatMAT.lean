import Derived.Test.YteibhbnlcpejpaaGreatMAQ
import Derived.Test.YteibhbnlcpejpaaGreatMAR
import Derived.Test.YteibhbnlcpejpaaGreatMAS
set_option maxRecDepth 100000
set_option maxHeartbeats 4000000
namespace Go.Proofs.YteibhbnlcpejpaaGreat
open Go.RowKit
theorem heap_set3 {w: World} {p T: Nat} {a b c: Value} (h: w.heap[p]? = some (.cells #[a,b,c] T (0,0))) (x y z: Value): (((w.setCell ⟨p,0,none⟩ x).setCell ⟨p,1,none⟩ y).setCell ⟨p,2,none⟩ z).heap[p]? = some (.cells #[x,y,z] T (0,0)) :=
 heap_setCell_same _ _ _ _ _ _ (heap_setCell_same _ _ _ _ _ _ (heap_setCell_same _ _ _ _ _ _ h))
section
variable {w W: World} {n: Nat} {ra: Option Addr} {rs: List RowL} {m rc: Nat} {xo: ByteArray} {xk xn: Int} {xs: ByteArray} {xv xc: Int} {xa: Option Addr} {k xp: Nat} {l: List NL} {left: Int}
theorem eval_and {k0 k1: NL} (hk: kidsN xo = 2) (h1: (n + 1: Nat) <= left) (h2: left <= 65536) (ho: xo.toList = nAND) (IH: EvIH n ra rs rc) (hR: RowsIn w ra rs) (hS: Rw.SlG nC 7 w xa [k0,k1]) (hI0: InN n w k0) (hI1: InN n w k1) (hd0: deepN n k0 = false) (hd1: deepN n k1 = false) :
 Calls Tryz.prog 180 #[scV ra rs.length rc left,nV (.mk xo xk xn xs xv xc xa xp [k0,k1])] w (EvP (evBoth 0 tAnd (evN n rs k0) (evN n rs k1)) w) := by
 have HK := Rw.dh (fun W => nkids_walk xo W)
 have hz: (left == 0) = false := beq_eq_false_iff_ne.2 (by omega)
 have hl1: 1 <= left := by omega
 have k1': (xo.toList == [118,97,108,117,101]) = false := by rw [ho]; rfl
 have k2: (xo.toList == [99,111,108,117,109,110]) = false := by rw [ho]; rfl
 have k3: (xo.toList == [97,110,100]) = true := by rw [ho]; rfl
 have HC := Rw.dh (fun W (hb: Below w.heap.size w W) => both_of IH 204 tAnd 0 (fun args w => by simp [go_sem]) (fun a b w => and_walk a b w) k0 k1 xa xp W (left - 1) (hS.below hb) (hI0.on hb) (hI1.on hb) hd0 hd1 (by omega) (by omega) (hR.on hb))
 unfold scV at HC
 unfold scV nV
 dsimp only [NL.op,NL.vk,NL.vn,NL.vs,NL.var,NL.col,NL.a,NL.c,NL.kids,List.length_cons,List.length_nil]
 rw [hk] at HK
 clear hk ho hR hS hI0 hI1 hd0 hd1 h1 IH
 generalize evBoth 0 tAnd (evN n rs k0) (evN n rs k1) = R at *
 go_enter Tryz.func180,Tryz.ntmps180
 go_wp2_with fail
 go_quiet (first | (go_at_call 201; exact Calls.quiet_of_same (HK.out _)))
 refine Rw.to_letter (F := fun W => Ebx w W ra rs.length rc left xo xk xn xs xv xc xa 2 xp) (Ebx.new _) ?_
 intro W hE
 have HE := Rw.dh hE
 obtain ⟨s0,s1,s2,s3⟩ := hE.cs
 obtain ⟨n0,n1,n2,n3,n4,n5,n6⟩ := hE.cn
 clear hE
 go_wp2_with fail
 refine (HC.out _ (HE.out.dec _).bel).mono ?_
 rintro e w1 ⟨hW,hb⟩
 have HE1 := Rw.dh ((HE.out.dec _).on hb)
 clear hb HE HC
 cases hW with
 | no v c h =>
  go_wp2
  exact ⟨rfl, .no _ _ h,HE1.out.bel⟩
 | ok v =>
  obtain ⟨z0,z1,z2,z3,z4,z5⟩ := HE1.out.cz
  obtain ⟨vk,vn,vs⟩ := v
  unfold vvV valV
  go_wp2
  exact bodyPost_ret (v := .agg #[.int .i64 vk, .int .i64 vn, .string vs]) (by simp [results,Tryz.results180,go_sem,z0,z1,z2]) rfl ⟨.ok ⟨vk,vn,vs⟩,below_set3 (by omega) HE1.out.bel _ _ _⟩
theorem eval_or {k0 k1: NL} (hk: kidsN xo = 2) (h1: (n + 1: Nat) <= left) (h2: left <= 65536) (ho: xo.toList = nOR) (IH: EvIH n ra rs rc) (hR: RowsIn w ra rs) (hS: Rw.SlG nC 7 w xa [k0,k1]) (hI0: InN n w k0) (hI1: InN n w k1) (hd0: deepN n k0 = false) (hd1: deepN n k1 = false) :
 Calls Tryz.prog 180 #[scV ra rs.length rc left,nV (.mk xo xk xn xs xv xc xa xp [k0,k1])] w (EvP (evBoth 1 tOr (evN n rs k0) (evN n rs k1)) w) := by
 have HK := Rw.dh (fun W => nkids_walk xo W)
 have hz: (left == 0) = false := beq_eq_false_iff_ne.2 (by omega)
 have hl1: 1 <= left := by omega
 have k1': (xo.toList == [118,97,108,117,101]) = false := by rw [ho]; rfl
 have k2: (xo.toList == [99,111,108,117,109,110]) = false := by rw [ho]; rfl
 have k3: (xo.toList == [97,110,100]) = false := by rw [ho]; rfl
 have k4: (xo.toList == [111,114]) = true := by rw [ho]; rfl
 have HC := Rw.dh (fun W (hb: Below w.heap.size w W) => both_of IH 205 tOr 1 (fun args w => by simp [go_sem]) (fun a b w => or_walk a b w) k0 k1 xa xp W (left - 1) (hS.below hb) (hI0.on hb) (hI1.on hb) hd0 hd1 (by omega) (by omega) (hR.on hb))
 unfold scV at HC
 unfold scV nV
 dsimp only [NL.op,NL.vk,NL.vn,NL.vs,NL.var,NL.col,NL.a,NL.c,NL.kids,List.length_cons,List.length_nil]
 rw [hk] at HK
 clear hk ho hR hS hI0 hI1 hd0 hd1 h1 IH
 generalize evBoth 1 tOr (evN n rs k0) (evN n rs k1) = R at *
 go_enter Tryz.func180,Tryz.ntmps180
 go_wp2_with fail
 go_quiet (first | (go_at_call 201; exact Calls.quiet_of_same (HK.out _)))
 refine Rw.to_letter (F := fun W => Ebx w W ra rs.length rc left xo xk xn xs xv xc xa 2 xp) (Ebx.new _) ?_
 intro W hE
 have HE := Rw.dh hE
 obtain ⟨s0,s1,s2,s3⟩ := hE.cs
 obtain ⟨n0,n1,n2,n3,n4,n5,n6⟩ := hE.cn
 clear hE
 go_wp2_with fail
 refine (HC.out _ (HE.out.dec _).bel).mono ?_
 rintro e w1 ⟨hW,hb⟩
 have HE1 := Rw.dh ((HE.out.dec _).on hb)
 clear hb HE HC
 cases hW with
 | no v c h =>
  go_wp2
  exact ⟨rfl, .no _ _ h,HE1.out.bel⟩
 | ok v =>
  obtain ⟨z0,z1,z2,z3,z4,z5⟩ := HE1.out.cz
  obtain ⟨vk,vn,vs⟩ := v
  unfold vvV valV
  go_wp2
  exact bodyPost_ret (v := .agg #[.int .i64 vk, .int .i64 vn, .string vs]) (by simp [results,Tryz.results180,go_sem,z0,z1,z2]) rfl ⟨.ok ⟨vk,vn,vs⟩,below_set3 (by omega) HE1.out.bel _ _ _⟩
theorem eval_one {k0: NL} (hk: kidsN xo = 1) (h1: (n + 1: Nat) <= left) (h2: left <= 65536) (ho: xo.toList = nNEG \/ xo.toList = nNOT \/ xo.toList = nNULL) (IH0: EvIH n ra rs rc) (hF: VFit (evN n rs k0).1) (hR: RowsIn w ra rs) (hS: Rw.SlG nC 7 w xa [k0]) (hI0: InN n w k0) (hd0: deepN n k0 = false) :
 Calls Tryz.prog 180 #[scV ra rs.length rc left,nV (.mk xo xk xn xs xv xc xa xp [k0])] w (EvP (oneE xo.toList (evN n rs k0)) w) := by
 have HK := Rw.dh (fun W => nkids_walk xo W)
 have hz: (left == 0) = false := beq_eq_false_iff_ne.2 (by omega)
 have hl1: 1 <= left := by omega
 have k1': (xo.toList == [118,97,108,117,101]) = false := by rcases ho with h | h | h <;> rw [h] <;> rfl
 have k2: (xo.toList == [99,111,108,117,109,110]) = false := by rcases ho with h | h | h <;> rw [h] <;> rfl
 have k3: (xo.toList == [97,110,100]) = false := by rcases ho with h | h | h <;> rw [h] <;> rfl
 have k4: (xo.toList == [111,114]) = false := by rcases ho with h | h | h <;> rw [h] <;> rfl
 have IH := Rw.dh (fun W (hb: Below w.heap.size w W) => IH0 k0 W (left - 1) (hI0.on hb) hd0 (by omega) (by omega) (hR.on hb))
 have HO := Rw.dh (fun v (hv: VFit v) W => one_walk xo ho v hv W)
 have HS := Rw.dh (fun W (hb: Below w.heap.size w W) => hS.below hb)
 have HF := Rw.dh hF
 obtain ⟨R,hRR⟩: ∃ R,R = oneE xo.toList (evN n rs k0) := ⟨_,rfl⟩
 rw [<- hRR]
 have HR := Rw.dh hRR
 clear hRR
 unfold scV at IH
 unfold scV nV
 unfold nV at IH
 dsimp only [NL.op,NL.vk,NL.vn,NL.vs,NL.var,NL.col,NL.a,NL.c,NL.kids,List.length_cons,List.length_nil]
 rw [hk] at HK
 clear hk ho hR hS hI0 hd0 h1 IH0 hF
 generalize evN n rs k0 = r0 at *
 go_enter Tryz.func180,Tryz.ntmps180
 go_wp2_with fail
 go_quiet (first | (go_at_call 201; exact Calls.quiet_of_same (HK.out _)))
 refine Rw.to_letter (F := fun W => Ebx w W ra rs.length rc left xo xk xn xs xv xc xa 1 xp) (Ebx.new _) ?_
 intro W hE
 have HE := Rw.dh hE
 obtain ⟨s0,s1,s2,s3⟩ := hE.cs
 obtain ⟨n0,n1,n2,n3,n4,n5,n6⟩ := hE.cn
 clear hE
 go_wp2_with fail
 have hEd := HE.out.dec (left - 1)
 clear s0 s1 s2 s3 n0 n1 n2 n3 n4 n5 n6 HE
 generalize W.setCell ⟨w.heap.size,1,none⟩ (.int .i64 (left - 1)) = V at hEd ⊢
 have HE := Rw.dh hEd
 obtain ⟨b,o,x0,rfl,hb,hx,hc⟩ := (HS.out _ hEd.bel).at (j := 0) (by simp)
 obtain rfl: k0 = x0 := by simpa using hx
 have c0: V.cell? ⟨b,o,none⟩ = some (.string k0.op) := hc 0 _ rfl
 have c1: V.cell? ⟨b,o + 1,none⟩ = some (.int .i64 k0.vk) := by simpa using hc 1 _ rfl
 have c2: V.cell? ⟨b,o + 2,none⟩ = some (.int .i64 k0.vn) := by simpa using hc 2 _ rfl
 have c3: V.cell? ⟨b,o + 3,none⟩ = some (.string k0.vs) := by simpa using hc 3 _ rfl
 have c4: V.cell? ⟨b,o + 4,none⟩ = some (.int .i64 k0.var) := by simpa using hc 4 _ rfl
 have c5: V.cell? ⟨b,o + 5,none⟩ = some (.int .i64 k0.col) := by simpa using hc 5 _ rfl
 have c6: V.cell? ⟨b,o + 6,none⟩ = some (.slice k0.a k0.kids.length k0.c) := by simpa using hc 6 _ rfl
 have KS: Hid (∀ W,Below V.heap.size V W -> (W.cell? ⟨w.heap.size,0,none⟩ = some (.slice ra rs.length rc) /\ W.cell? ⟨w.heap.size,1,none⟩ = some (.int .i64 (left - 1)) /\ W.cell? ⟨w.heap.size + 1,6,none⟩ = some (.slice (some ⟨b,o,none⟩) 1 xp) /\ W.cell? ⟨b,o,none⟩ = some (.string k0.op) /\ W.cell? ⟨b,o + 1,none⟩ = some (.int .i64 k0.vk) /\ W.cell? ⟨b,o + 2,none⟩ = some (.int .i64 k0.vn) /\ W.cell? ⟨b,o + 3,none⟩ = some (.string k0.vs) /\ W.cell? ⟨b,o + 4,none⟩ = some (.int .i64 k0.var) /\ W.cell? ⟨b,o + 5,none⟩ = some (.int .i64 k0.col) /\ W.cell? ⟨b,o + 6,none⟩ = some (.slice k0.a k0.kids.length k0.c))) := fun W hW => by
  refine ⟨(HE.out.on hW).cs.1,(HE.out.on hW).cs.2.1,(HE.out.on hW).cn.2.2.2.2.2.2, ?_, ?_, ?_, ?_, ?_, ?_, ?_⟩ <;> rw [hW.cell hb] <;> assumption
 have HC1: Hid (∀ W,Below V.heap.size V W -> Calls Tryz.prog 180 #[.agg #[.slice ra rs.length rc, .int .i64 (left - 1)], .agg #[.string k0.op, .int .i64 k0.vk, .int .i64 k0.vn, .string k0.vs, .int .i64 k0.var, .int .i64 k0.col, .slice k0.a k0.kids.length k0.c]] W fun e w2 => (e = .returned (vvV r0.1) /\ Hid (r0.2 = 0) /\ Hid (Below V.heap.size V w2) /\ Hid (Below W.heap.size W w2)) \/ (e = .panicked (stopped r0.2 0) /\ Hid (EvP R w (.panicked (stopped r0.2 0)) w2))) := fun W hW => (IH.out _ (below_on HE.out.bel hW)).mono (by
  rintro e w2 ⟨hWo,hb⟩
  have hR := HR.out
  cases hWo with
  | ok v => exact Or.inl ⟨rfl,rfl,below_on hW hb,hb⟩
  | no v c h =>
   unfold oneE at hR
   rw [if_neg (by simpa using h)] at hR
   exact Or.inr ⟨rfl,by rw [hR]; exact .no _ _ h,below_on HE.out.bel (below_on hW hb)⟩)
 have HV: Hid (∀ w2,Below (V.alloc (.cells #[.int .i64 0, .int .i64 0, .string ⟨#[]⟩] 27)).drew.heap.size (V.alloc (.cells #[.int .i64 0, .int .i64 0, .string ⟨#[]⟩] 27)).drew w2 -> w2.cell? ⟨V.heap.size,0,none⟩ = some (.int .i64 0) /\ w2.cell? ⟨V.heap.size,1,none⟩ = some (.int .i64 0) /\ w2.cell? ⟨V.heap.size,2,none⟩ = some (.string ⟨#[]⟩) /\ w2.frozen? ⟨V.heap.size,0,none⟩ = false /\ w2.frozen? ⟨V.heap.size,1,none⟩ = false /\ w2.frozen? ⟨V.heap.size,2,none⟩ = false /\ V.heap.size < w2.heap.size /\ Hid (w2.heap[V.heap.size]? = some (.cells #[.int .i64 0, .int .i64 0, .string ⟨#[]⟩] 27 (0,0)))) := fun w2 hb => by
  have h := vbox (W := (V.alloc _).drew) (Rw.heap_new V _) hb
  exact ⟨h.1,h.2.1,h.2.2.1,h.2.2.2.1,h.2.2.2.2.1,h.2.2.2.2.2.1,h.2.2.2.2.2.2,(hb.block _ (by show V.heap.size < (V.alloc _).heap.size; simp)).trans (Rw.heap_new V _)⟩
 clear hc hx hb c0 c1 c2 c3 c4 c5 c6 hEd IH
 obtain ⟨⟨vk,vn,vs⟩,r2⟩ := r0
 unfold vvV valV at HC1
 dsimp only at HC1
 go_region_held (fun W => W.cell? ⟨w.heap.size,0,none⟩ = some (.slice ra rs.length rc) /\ W.cell? ⟨w.heap.size,1,none⟩ = some (.int .i64 (left - 1)) /\ W.cell? ⟨w.heap.size + 1,6,none⟩ = some (.slice (some ⟨b,o,none⟩) 1 xp) /\ W.cell? ⟨b,o,none⟩ = some (.string k0.op) /\ W.cell? ⟨b,o + 1,none⟩ = some (.int .i64 k0.vk) /\ W.cell? ⟨b,o + 2,none⟩ = some (.int .i64 k0.vn) /\ W.cell? ⟨b,o + 3,none⟩ = some (.string k0.vs) /\ W.cell? ⟨b,o + 4,none⟩ = some (.int .i64 k0.var) /\ W.cell? ⟨b,o + 5,none⟩ = some (.int .i64 k0.col) /\ W.cell? ⟨b,o + 6,none⟩ = some (.slice k0.a k0.kids.length k0.c)) (exact KS.out _ (by with_reducible (first
  | exact (Below.refl _ _).drew
  | exact (Rw.below_alloc _ _).drew
  | exact HBb.out
  | exact HBb.out.alloc HBb.out.size _
  | exact below_set3 (Nat.le_refl _) HBb.out _ _ _
  | exact below_set3 HBb.out.size HBb.out _ _ _
  | exact below_set3 HBb.out.size (HBb.out.alloc HBb.out.size _) _ _ _))) (first
  | (go_at_call 180
     go_loud (
      refine (HC1.out _ (by with_reducible (first | exact (Below.refl _ _).drew | exact (Rw.below_alloc _ _).drew))).mono ?_
      rintro e w2 (⟨rfl,H0,HBb,hb⟩ | ⟨rfl,hE⟩)
      rotate_left
      · exact ⟨rfl,hE.out⟩
      try (with_reducible have hv := HV.out w2 hb.out
           obtain ⟨a0,a1,a2,a3,a4,a5,a6,HA⟩ := hv)
      clear hb)))
 · refine Rw.to_letter (F := fun W5 => Ebx w W5 ra rs.length rc (left - 1) xo xk xn xs xv xc (some ⟨b,o,none⟩) 1 xp /\ W5.heap[w2.heap.size]? = some (.cells #[.int .i64 vk, .int .i64 vn, .string vs] 27 (0,0))) ⟨HE.out.on (HBb.out.alloc HBb.out.size _),Rw.heap_new _ _⟩ ?_
   rintro W5 ⟨hE5,hA5⟩
   have HE5 := Rw.dh hE5
   obtain ⟨a0,a1,a2, -, -, -, a6⟩ := vbox hA5 (Below.refl _ _)
   obtain ⟨n0,n1,n2,n3,n4,n5,n6⟩ := hE5.cn
   have HR5: Hid (R = oneV xo.toList ⟨vk,vn,vs⟩) := by rw [Hid,HR.out,H0.out]; rfl
   clear hE5 hA5
   go_wp2_with fail
   refine (HO.out ⟨vk,vn,vs⟩ HF.out _).mono ?_
   rintro e w3 ⟨hWo,hb⟩
   have HE6 := Rw.dh (HE5.out.on hb)
   rw [<- HR5.out] at hWo
   clear HR5 HR
   clear hb HE5 a0 a1 a2 a6 n0 n1 n2 n3 n4 n5 n6
   cases hWo with
   | no v c h =>
    go_wp2
    exact ⟨rfl, .no _ _ h,HE6.out.bel⟩
   | ok v =>
    obtain ⟨z0,z1,z2,z3,z4,z5⟩ := HE6.out.cz
    obtain ⟨uk,un,us⟩ := v
    unfold vvV valV
    go_wp2
    exact bodyPost_ret (v := .agg #[.int .i64 uk, .int .i64 un, .string us]) (by simp [results,Tryz.results180,go_sem,z0,z1,z2]) rfl ⟨.ok ⟨uk,un,us⟩,below_set3 (by omega) HE6.out.bel _ _ _⟩
 · refine Rw.to_letter (F := fun W5 => Ebx w W5 ra rs.length rc (left - 1) xo xk xn xs xv xc (some ⟨b,o,none⟩) 1 xp /\ W5.heap[V.heap.size]? = some (.cells #[.int .i64 vk, .int .i64 vn, .string vs] 27 (0,0))) ⟨HE.out.on (below_set3 (Nat.le_refl _) HBb.out _ _ _),heap_set3 HA.out _ _ _⟩ ?_
   rintro W5 ⟨hE5,hA5⟩
   have HE5 := Rw.dh hE5
   obtain ⟨a0,a1,a2, -, -, -, a6⟩ := vbox hA5 (Below.refl _ _)
   obtain ⟨n0,n1,n2,n3,n4,n5,n6⟩ := hE5.cn
   have HR5: Hid (R = oneV xo.toList ⟨vk,vn,vs⟩) := by rw [Hid,HR.out,H0.out]; rfl
   clear hE5 hA5
   go_wp2_with fail
   refine (HO.out ⟨vk,vn,vs⟩ HF.out _).mono ?_
   rintro e w3 ⟨hWo,hb⟩
   have HE6 := Rw.dh (HE5.out.on hb)
   rw [<- HR5.out] at hWo
   clear HR5 HR
   clear hb HE5 a0 a1 a2 a6 n0 n1 n2 n3 n4 n5 n6
   cases hWo with
   | no v c h =>
    go_wp2
    exact ⟨rfl, .no _ _ h,HE6.out.bel⟩
   | ok v =>
    obtain ⟨z0,z1,z2,z3,z4,z5⟩ := HE6.out.cz
    obtain ⟨uk,un,us⟩ := v
    unfold vvV valV
    go_wp2
    exact bodyPost_ret (v := .agg #[.int .i64 uk, .int .i64 un, .string us]) (by simp [results,Tryz.results180,go_sem,z0,z1,z2]) rfl ⟨.ok ⟨uk,un,us⟩,below_set3 (by omega) HE6.out.bel _ _ _⟩
end
section
variable {w W: World} {n: Nat} {ra: Option Addr} {rs: List RowL} {m rc: Nat} {xo: ByteArray} {xk xn: Int} {xs: ByteArray} {xv xc: Int} {xa: Option Addr} {k xp: Nat} {l: List NL} {left: Int}
theorem eval_two {k0 k1: NL} (hk: kidsN xo = 2) (h1: (n + 1: Nat) <= left) (h2: left <= 65536) (k1': (xo.toList == [118,97,108,117,101]) = false) (k2: (xo.toList == [99,111,108,117,109,110]) = false) (k3: (xo.toList == [97,110,100]) = false) (k4: (xo.toList == [111,114]) = false) (IH0: EvIH n ra rs rc) (hF: VFit (evN n rs k0).1) (hF1: VFit (evN n rs k1).1) (hR: RowsIn w ra rs) (hS: Rw.SlG nC 7 w xa [k0,k1]) (hI0: InN n w k0) (hd0: deepN n k0 = false) (hI1: InN n w k1) (hd1: deepN n k1 = false) :
 Calls Tryz.prog 180 #[scV ra rs.length rc left,nV (.mk xo xk xn xs xv xc xa xp [k0,k1])] w (EvP (twoE xo (evN n rs k0) (evN n rs k1)) w) := by
 have HK := Rw.dh (fun W => nkids_walk xo W)
 have hz: (left == 0) = false := beq_eq_false_iff_ne.2 (by omega)
 have hl1: 1 <= left := by omega
 have IH := Rw.dh (fun W (hb: Below w.heap.size w W) => IH0 k0 W (left - 1) (hI0.on hb) hd0 (by omega) (by omega) (hR.on hb))
 have IH1 := Rw.dh (fun W (hb: Below w.heap.size w W) => IH0 k1 W (left - 1) (hI1.on hb) hd1 (by omega) (by omega) (hR.on hb))
 have HO := Rw.dh (fun a b (ha: VFit a) (hb: VFit b) W => two_any xo a b ha hb W)
 have HS := Rw.dh (fun W (hb: Below w.heap.size w W) => hS.below hb)
 have HF := Rw.dh hF
 have HF1 := Rw.dh hF1
 have hSw: xa = none \/ ∃ b o,xa = some ⟨b,o,none⟩ /\ b < w.heap.size := by
  rcases hS with e | ⟨b,o,e,h,_⟩
  · cases e
  · exact Or.inr ⟨b,o,e,h⟩
 have HSw := Rw.dh hSw
 obtain ⟨R,hRR⟩: ∃ R,R = twoE xo (evN n rs k0) (evN n rs k1) := ⟨_,rfl⟩
 rw [<- hRR]
 have HR := Rw.dh hRR
 clear hRR
 unfold scV at IH IH1
 unfold scV nV
 unfold nV at IH IH1
 dsimp only [NL.op,NL.vk,NL.vn,NL.vs,NL.var,NL.col,NL.a,NL.c,NL.kids,List.length_cons,List.length_nil]
 rw [hk] at HK
 clear hk hR hS hI0 hd0 hI1 hd1 h1 IH0 hF hF1 hSw
 generalize evN n rs k0 = r0 at *
 generalize evN n rs k1 = r1 at *
 go_enter Tryz.func180,Tryz.ntmps180
 go_wp2_with fail
 go_quiet (first | (go_at_call 201; exact Calls.quiet_of_same (HK.out _)))
 refine Rw.to_letter (F := fun W => Ebx w W ra rs.length rc left xo xk xn xs xv xc xa 2 xp) (Ebx.new _) ?_
 intro W hE
 have HE := Rw.dh hE
 obtain ⟨s0,s1,s2,s3⟩ := hE.cs
 obtain ⟨n0,n1,n2,n3,n4,n5,n6⟩ := hE.cn
 clear hE
 go_wp2_with fail
 have hEd := HE.out.dec (left - 1)
 clear s0 s1 s2 s3 n0 n1 n2 n3 n4 n5 n6 HE
 generalize W.setCell ⟨w.heap.size,1,none⟩ (.int .i64 (left - 1)) = V at hEd ⊢
 have HE := Rw.dh hEd
 obtain ⟨b,o,x0,rfl,hb,hx,hc⟩ := (HS.out _ hEd.bel).at (j := 0) (by simp)
 obtain rfl: k0 = x0 := by simpa using hx
 have c0: V.cell? ⟨b,o,none⟩ = some (.string k0.op) := hc 0 _ rfl
 have c1: V.cell? ⟨b,o + 1,none⟩ = some (.int .i64 k0.vk) := by simpa using hc 1 _ rfl
 have c2: V.cell? ⟨b,o + 2,none⟩ = some (.int .i64 k0.vn) := by simpa using hc 2 _ rfl
 have c3: V.cell? ⟨b,o + 3,none⟩ = some (.string k0.vs) := by simpa using hc 3 _ rfl
 have c4: V.cell? ⟨b,o + 4,none⟩ = some (.int .i64 k0.var) := by simpa using hc 4 _ rfl
 have c5: V.cell? ⟨b,o + 5,none⟩ = some (.int .i64 k0.col) := by simpa using hc 5 _ rfl
 have c6: V.cell? ⟨b,o + 6,none⟩ = some (.slice k0.a k0.kids.length k0.c) := by simpa using hc 6 _ rfl
 have KS: Hid (∀ W,Below V.heap.size V W -> (W.cell? ⟨w.heap.size,0,none⟩ = some (.slice ra rs.length rc) /\ W.cell? ⟨w.heap.size,1,none⟩ = some (.int .i64 (left - 1)) /\ W.cell? ⟨w.heap.size + 1,6,none⟩ = some (.slice (some ⟨b,o,none⟩) 2 xp) /\ W.cell? ⟨b,o,none⟩ = some (.string k0.op) /\ W.cell? ⟨b,o + 1,none⟩ = some (.int .i64 k0.vk) /\ W.cell? ⟨b,o + 2,none⟩ = some (.int .i64 k0.vn) /\ W.cell? ⟨b,o + 3,none⟩ = some (.string k0.vs) /\ W.cell? ⟨b,o + 4,none⟩ = some (.int .i64 k0.var) /\ W.cell? ⟨b,o + 5,none⟩ = some (.int .i64 k0.col) /\ W.cell? ⟨b,o + 6,none⟩ = some (.slice k0.a k0.kids.length k0.c))) := fun W hW => by
  refine ⟨(HE.out.on hW).cs.1,(HE.out.on hW).cs.2.1,(HE.out.on hW).cn.2.2.2.2.2.2, ?_, ?_, ?_, ?_, ?_, ?_, ?_⟩ <;> rw [hW.cell hb] <;> assumption
 have HC1: Hid (∀ W,Below V.heap.size V W -> Calls Tryz.prog 180 #[.agg #[.slice ra rs.length rc, .int .i64 (left - 1)], .agg #[.string k0.op, .int .i64 k0.vk, .int .i64 k0.vn, .string k0.vs, .int .i64 k0.var, .int .i64 k0.col, .slice k0.a k0.kids.length k0.c]] W fun e w2 => (e = .returned (vvV r0.1) /\ Hid (r0.2 = 0) /\ Hid (Below V.heap.size V w2) /\ Hid (Below W.heap.size W w2)) \/ (e = .panicked (stopped r0.2 0) /\ Hid (EvP R w (.panicked (stopped r0.2 0)) w2))) := fun W hW => (IH.out _ (below_on HE.out.bel hW)).mono (by
  rintro e w2 ⟨hWo,hb⟩
  have hR := HR.out
  cases hWo with
  | ok v => exact Or.inl ⟨rfl,rfl,below_on hW hb,hb⟩
  | no v c h =>
   unfold twoE at hR
   rw [if_neg (by simpa using h)] at hR
   exact Or.inr ⟨rfl,by rw [hR]; exact .no _ _ h,below_on HE.out.bel (below_on hW hb)⟩)
 have HV: Hid (∀ w2,Below (V.alloc (.cells #[.int .i64 0, .int .i64 0, .string ⟨#[]⟩] 27)).drew.heap.size (V.alloc (.cells #[.int .i64 0, .int .i64 0, .string ⟨#[]⟩] 27)).drew w2 -> w2.cell? ⟨V.heap.size,0,none⟩ = some (.int .i64 0) /\ w2.cell? ⟨V.heap.size,1,none⟩ = some (.int .i64 0) /\ w2.cell? ⟨V.heap.size,2,none⟩ = some (.string ⟨#[]⟩) /\ w2.frozen? ⟨V.heap.size,0,none⟩ = false /\ w2.frozen? ⟨V.heap.size,1,none⟩ = false /\ w2.frozen? ⟨V.heap.size,2,none⟩ = false /\ V.heap.size < w2.heap.size /\ Hid (w2.heap[V.heap.size]? = some (.cells #[.int .i64 0, .int .i64 0, .string ⟨#[]⟩] 27 (0,0)))) := fun w2 hb => by
  have h := vbox (W := (V.alloc _).drew) (Rw.heap_new V _) hb
  exact ⟨h.1,h.2.1,h.2.2.1,h.2.2.2.1,h.2.2.2.2.1,h.2.2.2.2.2.1,h.2.2.2.2.2.2,(hb.block _ (by show V.heap.size < (V.alloc _).heap.size; simp)).trans (Rw.heap_new V _)⟩
 clear hc hx hb c0 c1 c2 c3 c4 c5 c6 hEd IH
 obtain ⟨⟨vk,vn,vs⟩,r2⟩ := r0
 unfold vvV valV at HC1
 dsimp only at HC1
 go_region_held (fun W => W.cell? ⟨w.heap.size,0,none⟩ = some (.slice ra rs.length rc) /\ W.cell? ⟨w.heap.size,1,none⟩ = some (.int .i64 (left - 1)) /\ W.cell? ⟨w.heap.size + 1,6,none⟩ = some (.slice (some ⟨b,o,none⟩) 2 xp) /\ W.cell? ⟨b,o,none⟩ = some (.string k0.op) /\ W.cell? ⟨b,o + 1,none⟩ = some (.int .i64 k0.vk) /\ W.cell? ⟨b,o + 2,none⟩ = some (.int .i64 k0.vn) /\ W.cell? ⟨b,o + 3,none⟩ = some (.string k0.vs) /\ W.cell? ⟨b,o + 4,none⟩ = some (.int .i64 k0.var) /\ W.cell? ⟨b,o + 5,none⟩ = some (.int .i64 k0.col) /\ W.cell? ⟨b,o + 6,none⟩ = some (.slice k0.a k0.kids.length k0.c)) (exact KS.out _ (by with_reducible (first
  | exact (Below.refl _ _).drew
  | exact (Rw.below_alloc _ _).drew
  | exact HBb.out
  | exact HBb.out.alloc HBb.out.size _
  | exact below_set3 (Nat.le_refl _) HBb.out _ _ _
  | exact below_set3 HBb.out.size HBb.out _ _ _
  | exact below_set3 HBb.out.size (HBb.out.alloc HBb.out.size _) _ _ _))) (first
  | (go_at_call 180
     go_loud (
      refine (HC1.out _ (by with_reducible (first | exact (Below.refl _ _).drew | exact (Rw.below_alloc _ _).drew))).mono ?_
      rintro e w2 (⟨rfl,H0,HBb,hb⟩ | ⟨rfl,hE⟩)
      rotate_left
      · exact ⟨rfl,hE.out⟩
      try (with_reducible have hv := HV.out w2 hb.out
           obtain ⟨a0,a1,a2,a3,a4,a5,a6,HA⟩ := hv)
      clear hb)))
 · refine Rw.to_letter (F := fun W5 => Ebx w W5 ra rs.length rc (left - 1) xo xk xn xs xv xc (some ⟨b,o,none⟩) 2 xp /\ W5.heap[w2.heap.size]? = some (.cells #[.int .i64 vk, .int .i64 vn, .string vs] 27 (0,0)) /\ w.heap.size + 1 + 1 < w2.heap.size) ⟨HE.out.on (HBb.out.alloc HBb.out.size _),Rw.heap_new _ _,Nat.lt_of_lt_of_le (Array.getElem?_eq_some_iff.1 HE.out.z).1 HBb.out.size⟩ ?_
   rintro W5 ⟨hE5,hA5,hgt⟩
   have HE5 := Rw.dh hE5
   have HA5 := Rw.dh hA5
   obtain ⟨a0,a1,a2, -, -, -, a6⟩ := vbox hA5 (Below.refl _ _)
   obtain ⟨n0,n1,n2,n3,n4,n5,n6⟩ := hE5.cn
   obtain ⟨s0,s1, -, s3⟩ := hE5.cs
   obtain ⟨b',o',x1,hbo,hb,hx,hc⟩ := (HS.out _ hE5.bel).at (j := 1) (by simp)
   cases hbo
   obtain rfl: k1 = x1 := by simpa using hx
   have hbl: b < w.heap.size := by
    rcases HSw.out with e | ⟨b'',o'',e,h⟩
    · cases e
    · cases e; exact h
   have c0: W5.cell? ⟨b,o + 7,none⟩ = some (.string k1.op) := by simpa using hc 0 _ rfl
   have c1: W5.cell? ⟨b,o + 7 + 1,none⟩ = some (.int .i64 k1.vk) := by simpa using hc 1 _ rfl
   have c2: W5.cell? ⟨b,o + 7 + 2,none⟩ = some (.int .i64 k1.vn) := by simpa using hc 2 _ rfl
   have c3: W5.cell? ⟨b,o + 7 + 3,none⟩ = some (.string k1.vs) := by simpa using hc 3 _ rfl
   have c4: W5.cell? ⟨b,o + 7 + 4,none⟩ = some (.int .i64 k1.var) := by simpa using hc 4 _ rfl
   have c5: W5.cell? ⟨b,o + 7 + 5,none⟩ = some (.int .i64 k1.col) := by simpa using hc 5 _ rfl
   have c6: W5.cell? ⟨b,o + 7 + 6,none⟩ = some (.slice k1.a k1.kids.length k1.c) := by simpa using hc 6 _ rfl
   have KS5: Hid (∀ W: World,(∀ q,q < W5.heap.size -> q ≠ w.heap.size + 1 + 1 -> W.heap[q]? = W5.heap[q]?) -> (W.cell? ⟨w.heap.size,0,none⟩ = some (.slice ra rs.length rc) /\ W.cell? ⟨w.heap.size,1,none⟩ = some (.int .i64 (left - 1)) /\ W.cell? ⟨w.heap.size + 1,0,none⟩ = some (.string xo) /\ W.cell? ⟨w.heap.size + 1,6,none⟩ = some (.slice (some ⟨b,o,none⟩) 2 xp) /\ W.cell? ⟨w2.heap.size,0,none⟩ = some (.int .i64 vk) /\ W.cell? ⟨w2.heap.size,1,none⟩ = some (.int .i64 vn) /\ W.cell? ⟨w2.heap.size,2,none⟩ = some (.string vs) /\ W.cell? ⟨b,o + 7,none⟩ = some (.string k1.op) /\ W.cell? ⟨b,o + 7 + 1,none⟩ = some (.int .i64 k1.vk) /\ W.cell? ⟨b,o + 7 + 2,none⟩ = some (.int .i64 k1.vn) /\ W.cell? ⟨b,o + 7 + 3,none⟩ = some (.string k1.vs) /\ W.cell? ⟨b,o + 7 + 4,none⟩ = some (.int .i64 k1.var) /\ W.cell? ⟨b,o + 7 + 5,none⟩ = some (.int .i64 k1.col) /\ W.cell? ⟨b,o + 7 + 6,none⟩ = some (.slice k1.a k1.kids.length k1.c))) := fun W hW => by
    have hc: ∀ q i,q < W5.heap.size -> q ≠ w.heap.size + 1 + 1 -> W.cell? ⟨q,i,none⟩ = W5.cell? ⟨q,i,none⟩ := fun q i h1 h2 => World.cell?_of_block (w := W5) (hW q h1 h2)
    have l1: w.heap.size < W5.heap.size := s3
    have l2: w.heap.size + 1 < W5.heap.size := (Array.getElem?_eq_some_iff.1 HE5.out.n).1
    refine ⟨?_, ?_, ?_, ?_, ?_, ?_, ?_, ?_, ?_, ?_, ?_, ?_, ?_, ?_⟩
    · rw [hc _ _ l1 (by omega)]; exact s0
    · rw [hc _ _ l1 (by omega)]; exact s1
    · rw [hc _ _ l2 (by omega)]; exact n0
    · rw [hc _ _ l2 (by omega)]; exact n6
    · rw [hc _ _ a6 (by omega)]; exact a0
    · rw [hc _ _ a6 (by omega)]; exact a1
    · rw [hc _ _ a6 (by omega)]; exact a2
    all_goals (rw [hc _ _ hb (by omega)]; assumption)
   have KB: Hid (∀ W: World,Below W5.heap.size W5 W -> ∀ q,q < W5.heap.size -> q ≠ w.heap.size + 1 + 1 -> W.heap[q]? = W5.heap[q]?) := fun W hW q h1 _ => hW.block q h1
   have KZ: Hid (∀ (W: World) x y z,Below W5.heap.size W5 W -> ∀ q,q < W5.heap.size -> q ≠ w.heap.size + 1 + 1 -> (((W.setCell ⟨w.heap.size + 1 + 1,0,none⟩ x).setCell ⟨w.heap.size + 1 + 1,1,none⟩ y).setCell ⟨w.heap.size + 1 + 1,2,none⟩ z).heap[q]? = W5.heap[q]?) := fun W x y z hW q h1 h2 => by
    rw [heap_setCell_other _ _ _ _ h2,heap_setCell_other _ _ _ _ h2,heap_setCell_other _ _ _ _ h2]; exact hW.block q h1
   obtain ⟨q,hq⟩: ∃ q,q = twoV xo ⟨vk,vn,vs⟩ r1.1 := ⟨_,rfl⟩
   have HC2: Hid (∀ W,Below W5.heap.size W5 W -> Calls Tryz.prog 180 #[.agg #[.slice ra rs.length rc, .int .i64 (left - 1)], .agg #[.string k1.op, .int .i64 k1.vk, .int .i64 k1.vn, .string k1.vs, .int .i64 k1.var, .int .i64 k1.col, .slice k1.a k1.kids.length k1.c]] W fun e w2 => (e = .returned (vvV r1.1) /\ Hid (R = q) /\ Hid (Below W5.heap.size W5 w2)) \/ (e = .panicked (stopped r1.2 0) /\ Hid (EvP R w (.panicked (stopped r1.2 0)) w2))) := fun W hW => (IH1.out _ (below_on HE5.out.bel hW)).mono (by
    rintro e w2 ⟨hWo,hb⟩
    have hR := HR.out
    unfold twoE at hR
    rw [if_pos (by rw [H0.out]; rfl)] at hR
    cases hWo with
    | ok v => exact Or.inl ⟨rfl,by rw [Hid,hR,hq]; rfl,below_on hW hb⟩
    | no v c h =>
     rw [if_neg (by simpa using h)] at hR
     exact Or.inr ⟨rfl,by rw [hR]; exact .no _ _ h,below_on HE5.out.bel (below_on hW hb)⟩)
   have HT2: Hid (∀ W,Below W5.heap.size W5 W -> Hid (R = q) -> Calls Tryz.prog 207 #[.string xo, .agg #[.int .i64 vk, .int .i64 vn, .string vs],vvV r1.1] W fun e w2 => (e = .returned (vvV q.1) /\ Hid (q.2 = 0) /\ Hid (Below W5.heap.size W5 w2) /\ (w2.cell? ⟨w.heap.size + 1 + 1,0,none⟩ = some (.int .i64 0) /\ w2.cell? ⟨w.heap.size + 1 + 1,1,none⟩ = some (.int .i64 0) /\ w2.cell? ⟨w.heap.size + 1 + 1,2,none⟩ = some (.string ⟨#[]⟩) /\ w2.frozen? ⟨w.heap.size + 1 + 1,0,none⟩ = false /\ w2.frozen? ⟨w.heap.size + 1 + 1,1,none⟩ = false /\ w2.frozen? ⟨w.heap.size + 1 + 1,2,none⟩ = false)) \/ (e = .panicked (stopped q.2 0) /\ Hid (EvP R w (.panicked (stopped q.2 0)) w2))) := fun W hW hRq => (HO.out ⟨vk,vn,vs⟩ r1.1 HF.out HF1.out W).mono (by
    rintro e w2 ⟨hWo,hb⟩
    rw [<- hq] at hWo
    have h2 := below_on hW hb
    rw [Hid] at hRq
    cases hWo with
    | ok v => exact Or.inl ⟨rfl,rfl,h2,(HE5.out.on h2).cz⟩
    | no v c h => exact Or.inr ⟨rfl,by rw [hRq]; exact .no _ _ h,below_on HE5.out.bel h2⟩)
   have HBW: Hid (∀ w2,Below W5.heap.size W5 w2 -> Below w.heap.size w w2) := fun w2 h2 => below_on HE5.out.bel h2
   clear hE5 hA5 hx hc HR IH1 HO HS HE HA5 HC1 KS HV H0 hq hb a6 s3 hbl HF HF1
   obtain ⟨⟨uk,un,us⟩,r2'⟩ := r1
   obtain ⟨⟨qk,qn,qs⟩,q2⟩ := q
   unfold vvV valV at HC2 HT2
   dsimp only at HC2 HT2
   go_wp2_with fail
   go_region_held (fun W => W.cell? ⟨w.heap.size,0,none⟩ = some (.slice ra rs.length rc) /\ W.cell? ⟨w.heap.size,1,none⟩ = some (.int .i64 (left - 1)) /\ W.cell? ⟨w.heap.size + 1,0,none⟩ = some (.string xo) /\ W.cell? ⟨w.heap.size + 1,6,none⟩ = some (.slice (some ⟨b,o,none⟩) 2 xp) /\ W.cell? ⟨w2.heap.size,0,none⟩ = some (.int .i64 vk) /\ W.cell? ⟨w2.heap.size,1,none⟩ = some (.int .i64 vn) /\ W.cell? ⟨w2.heap.size,2,none⟩ = some (.string vs) /\ W.cell? ⟨b,o + 7,none⟩ = some (.string k1.op) /\ W.cell? ⟨b,o + 7 + 1,none⟩ = some (.int .i64 k1.vk) /\ W.cell? ⟨b,o + 7 + 2,none⟩ = some (.int .i64 k1.vn) /\ W.cell? ⟨b,o + 7 + 3,none⟩ = some (.string k1.vs) /\ W.cell? ⟨b,o + 7 + 4,none⟩ = some (.int .i64 k1.var) /\ W.cell? ⟨b,o + 7 + 5,none⟩ = some (.int .i64 k1.col) /\ W.cell? ⟨b,o + 7 + 6,none⟩ = some (.slice k1.a k1.kids.length k1.c)) (exact KS5.out _ (by with_reducible (first
    | exact KB.out _ (Below.refl _ _).drew
    | exact KB.out _ HBc.out
    | exact KZ.out _ _ _ _ HBc.out))) (first
    | (go_at_call 180
       refine (HC2.out _ (by with_reducible (first | exact (Below.refl _ _).drew))).mono ?_
       rintro e w3 (⟨rfl,HRq,HBc⟩ | ⟨rfl,hE⟩)
       rotate_left
       · exact ⟨rfl,hE.out⟩)
    | (go_at_call 207
       refine (HT2.out _ HBc.out HRq).mono ?_
       rintro e w4 (⟨rfl,Hq,HBc,z0,z1,z2,z3,z4,z5⟩ | ⟨rfl,hE⟩)
       rotate_left
       · exact ⟨rfl,hE.out⟩))
   go_wp2
   refine bodyPost_ret (v := .agg #[.int .i64 qk, .int .i64 qn, .string qs]) (by simp [results,Tryz.results180,go_sem,z0,z1,z2]) rfl ⟨?_,below_set3 (by omega) (HBW.out _ HBc.out) _ _ _⟩
   have e1 := HRq.out
   have e2 := Hq.out
   subst e2
   rw [e1]
   exact .ok ⟨qk,qn,qs⟩
 · refine Rw.to_letter (F := fun W5 => Ebx w W5 ra rs.length rc (left - 1) xo xk xn xs xv xc (some ⟨b,o,none⟩) 2 xp /\ W5.heap[V.heap.size]? = some (.cells #[.int .i64 vk, .int .i64 vn, .string vs] 27 (0,0)) /\ w.heap.size + 1 + 1 < V.heap.size) ⟨HE.out.on (below_set3 (Nat.le_refl _) HBb.out _ _ _),heap_set3 HA.out _ _ _,(Array.getElem?_eq_some_iff.1 HE.out.z).1⟩ ?_
   rintro W5 ⟨hE5,hA5,hgt⟩
   have HE5 := Rw.dh hE5
   have HA5 := Rw.dh hA5
   obtain ⟨a0,a1,a2, -, -, -, a6⟩ := vbox hA5 (Below.refl _ _)
   obtain ⟨n0,n1,n2,n3,n4,n5,n6⟩ := hE5.cn
   obtain ⟨s0,s1, -, s3⟩ := hE5.cs
   obtain ⟨b',o',x1,hbo,hb,hx,hc⟩ := (HS.out _ hE5.bel).at (j := 1) (by simp)
   cases hbo
   obtain rfl: k1 = x1 := by simpa using hx
   have hbl: b < w.heap.size := by
    rcases HSw.out with e | ⟨b'',o'',e,h⟩
    · cases e
    · cases e; exact h
   have c0: W5.cell? ⟨b,o + 7,none⟩ = some (.string k1.op) := by simpa using hc 0 _ rfl
   have c1: W5.cell? ⟨b,o + 7 + 1,none⟩ = some (.int .i64 k1.vk) := by simpa using hc 1 _ rfl
   have c2: W5.cell? ⟨b,o + 7 + 2,none⟩ = some (.int .i64 k1.vn) := by simpa using hc 2 _ rfl
   have c3: W5.cell? ⟨b,o + 7 + 3,none⟩ = some (.string k1.vs) := by simpa using hc 3 _ rfl
   have c4: W5.cell? ⟨b,o + 7 + 4,none⟩ = some (.int .i64 k1.var) := by simpa using hc 4 _ rfl
   have c5: W5.cell? ⟨b,o + 7 + 5,none⟩ = some (.int .i64 k1.col) := by simpa using hc 5 _ rfl
   have c6: W5.cell? ⟨b,o + 7 + 6,none⟩ = some (.slice k1.a k1.kids.length k1.c) := by simpa using hc 6 _ rfl
   have KS5: Hid (∀ W: World,(∀ q,q < W5.heap.size -> q ≠ w.heap.size + 1 + 1 -> W.heap[q]? = W5.heap[q]?) -> (W.cell? ⟨w.heap.size,0,none⟩ = some (.slice ra rs.length rc) /\ W.cell? ⟨w.heap.size,1,none⟩ = some (.int .i64 (left - 1)) /\ W.cell? ⟨w.heap.size + 1,0,none⟩ = some (.string xo) /\ W.cell? ⟨w.heap.size + 1,6,none⟩ = some (.slice (some ⟨b,o,none⟩) 2 xp) /\ W.cell? ⟨V.heap.size,0,none⟩ = some (.int .i64 vk) /\ W.cell? ⟨V.heap.size,1,none⟩ = some (.int .i64 vn) /\ W.cell? ⟨V.heap.size,2,none⟩ = some (.string vs) /\ W.cell? ⟨b,o + 7,none⟩ = some (.string k1.op) /\ W.cell? ⟨b,o + 7 + 1,none⟩ = some (.int .i64 k1.vk) /\ W.cell? ⟨b,o + 7 + 2,none⟩ = some (.int .i64 k1.vn) /\ W.cell? ⟨b,o + 7 + 3,none⟩ = some (.string k1.vs) /\ W.cell? ⟨b,o + 7 + 4,none⟩ = some (.int .i64 k1.var) /\ W.cell? ⟨b,o + 7 + 5,none⟩ = some (.int .i64 k1.col) /\ W.cell? ⟨b,o + 7 + 6,none⟩ = some (.slice k1.a k1.kids.length k1.c))) := fun W hW => by
    have hc: ∀ q i,q < W5.heap.size -> q ≠ w.heap.size + 1 + 1 -> W.cell? ⟨q,i,none⟩ = W5.cell? ⟨q,i,none⟩ := fun q i h1 h2 => World.cell?_of_block (w := W5) (hW q h1 h2)
    have l1: w.heap.size < W5.heap.size := s3
    have l2: w.heap.size + 1 < W5.heap.size := (Array.getElem?_eq_some_iff.1 HE5.out.n).1
    refine ⟨?_, ?_, ?_, ?_, ?_, ?_, ?_, ?_, ?_, ?_, ?_, ?_, ?_, ?_⟩
    · rw [hc _ _ l1 (by omega)]; exact s0
    · rw [hc _ _ l1 (by omega)]; exact s1
    · rw [hc _ _ l2 (by omega)]; exact n0
    · rw [hc _ _ l2 (by omega)]; exact n6
    · rw [hc _ _ a6 (by omega)]; exact a0
    · rw [hc _ _ a6 (by omega)]; exact a1
    · rw [hc _ _ a6 (by omega)]; exact a2
    all_goals (rw [hc _ _ hb (by omega)]; assumption)
   have KB: Hid (∀ W: World,Below W5.heap.size W5 W -> ∀ q,q < W5.heap.size -> q ≠ w.heap.size + 1 + 1 -> W.heap[q]? = W5.heap[q]?) := fun W hW q h1 _ => hW.block q h1
   have KZ: Hid (∀ (W: World) x y z,Below W5.heap.size W5 W -> ∀ q,q < W5.heap.size -> q ≠ w.heap.size + 1 + 1 -> (((W.setCell ⟨w.heap.size + 1 + 1,0,none⟩ x).setCell ⟨w.heap.size + 1 + 1,1,none⟩ y).setCell ⟨w.heap.size + 1 + 1,2,none⟩ z).heap[q]? = W5.heap[q]?) := fun W x y z hW q h1 h2 => by
    rw [heap_setCell_other _ _ _ _ h2,heap_setCell_other _ _ _ _ h2,heap_setCell_other _ _ _ _ h2]; exact hW.block q h1
   obtain ⟨q,hq⟩: ∃ q,q = twoV xo ⟨vk,vn,vs⟩ r1.1 := ⟨_,rfl⟩
   have HC2: Hid (∀ W,Below W5.heap.size W5 W -> Calls Tryz.prog 180 #[.agg #[.slice ra rs.length rc, .int .i64 (left - 1)], .agg #[.string k1.op, .int .i64 k1.vk, .int .i64 k1.vn, .string k1.vs, .int .i64 k1.var, .int .i64 k1.col, .slice k1.a k1.kids.length k1.c]] W fun e w2 => (e = .returned (vvV r1.1) /\ Hid (R = q) /\ Hid (Below W5.heap.size W5 w2)) \/ (e = .panicked (stopped r1.2 0) /\ Hid (EvP R w (.panicked (stopped r1.2 0)) w2))) := fun W hW => (IH1.out _ (below_on HE5.out.bel hW)).mono (by
    rintro e w2 ⟨hWo,hb⟩
    have hR := HR.out
    unfold twoE at hR
    rw [if_pos (by rw [H0.out]; rfl)] at hR
    cases hWo with
    | ok v => exact Or.inl ⟨rfl,by rw [Hid,hR,hq]; rfl,below_on hW hb⟩
    | no v c h =>
     rw [if_neg (by simpa using h)] at hR
     exact Or.inr ⟨rfl,by rw [hR]; exact .no _ _ h,below_on HE5.out.bel (below_on hW hb)⟩)
   have HT2: Hid (∀ W,Below W5.heap.size W5 W -> Hid (R = q) -> Calls Tryz.prog 207 #[.string xo, .agg #[.int .i64 vk, .int .i64 vn, .string vs],vvV r1.1] W fun e w2 => (e = .returned (vvV q.1) /\ Hid (q.2 = 0) /\ Hid (Below W5.heap.size W5 w2) /\ (w2.cell? ⟨w.heap.size + 1 + 1,0,none⟩ = some (.int .i64 0) /\ w2.cell? ⟨w.heap.size + 1 + 1,1,none⟩ = some (.int .i64 0) /\ w2.cell? ⟨w.heap.size + 1 + 1,2,none⟩ = some (.string ⟨#[]⟩) /\ w2.frozen? ⟨w.heap.size + 1 + 1,0,none⟩ = false /\ w2.frozen? ⟨w.heap.size + 1 + 1,1,none⟩ = false /\ w2.frozen? ⟨w.heap.size + 1 + 1,2,none⟩ = false)) \/ (e = .panicked (stopped q.2 0) /\ Hid (EvP R w (.panicked (stopped q.2 0)) w2))) := fun W hW hRq => (HO.out ⟨vk,vn,vs⟩ r1.1 HF.out HF1.out W).mono (by
    rintro e w2 ⟨hWo,hb⟩
    rw [<- hq] at hWo
    have h2 := below_on hW hb
    rw [Hid] at hRq
    cases hWo with
    | ok v => exact Or.inl ⟨rfl,rfl,h2,(HE5.out.on h2).cz⟩
    | no v c h => exact Or.inr ⟨rfl,by rw [hRq]; exact .no _ _ h,below_on HE5.out.bel h2⟩)
   have HBW: Hid (∀ w2,Below W5.heap.size W5 w2 -> Below w.heap.size w w2) := fun w2 h2 => below_on HE5.out.bel h2
   clear hE5 hA5 hx hc HR IH1 HO HS HE HA5 HC1 KS HV H0 hq hb a6 s3 hbl HF HF1
   obtain ⟨⟨uk,un,us⟩,r2'⟩ := r1
   obtain ⟨⟨qk,qn,qs⟩,q2⟩ := q
   unfold vvV valV at HC2 HT2
   dsimp only at HC2 HT2
   go_wp2_with fail
   go_region_held (fun W => W.cell? ⟨w.heap.size,0,none⟩ = some (.slice ra rs.length rc) /\ W.cell? ⟨w.heap.size,1,none⟩ = some (.int .i64 (left - 1)) /\ W.cell? ⟨w.heap.size + 1,0,none⟩ = some (.string xo) /\ W.cell? ⟨w.heap.size + 1,6,none⟩ = some (.slice (some ⟨b,o,none⟩) 2 xp) /\ W.cell? ⟨V.heap.size,0,none⟩ = some (.int .i64 vk) /\ W.cell? ⟨V.heap.size,1,none⟩ = some (.int .i64 vn) /\ W.cell? ⟨V.heap.size,2,none⟩ = some (.string vs) /\ W.cell? ⟨b,o + 7,none⟩ = some (.string k1.op) /\ W.cell? ⟨b,o + 7 + 1,none⟩ = some (.int .i64 k1.vk) /\ W.cell? ⟨b,o + 7 + 2,none⟩ = some (.int .i64 k1.vn) /\ W.cell? ⟨b,o + 7 + 3,none⟩ = some (.string k1.vs) /\ W.cell? ⟨b,o + 7 + 4,none⟩ = some (.int .i64 k1.var) /\ W.cell? ⟨b,o + 7 + 5,none⟩ = some (.int .i64 k1.col) /\ W.cell? ⟨b,o + 7 + 6,none⟩ = some (.slice k1.a k1.kids.length k1.c)) (exact KS5.out _ (by with_reducible (first
    | exact KB.out _ (Below.refl _ _).drew
    | exact KB.out _ HBc.out
    | exact KZ.out _ _ _ _ HBc.out))) (first
    | (go_at_call 180
       refine (HC2.out _ (by with_reducible (first | exact (Below.refl _ _).drew))).mono ?_
       rintro e w3 (⟨rfl,HRq,HBc⟩ | ⟨rfl,hE⟩)
       rotate_left
       · exact ⟨rfl,hE.out⟩)
    | (go_at_call 207
       refine (HT2.out _ HBc.out HRq).mono ?_
       rintro e w4 (⟨rfl,Hq,HBc,z0,z1,z2,z3,z4,z5⟩ | ⟨rfl,hE⟩)
       rotate_left
       · exact ⟨rfl,hE.out⟩))
   go_wp2
   refine bodyPost_ret (v := .agg #[.int .i64 qk, .int .i64 qn, .string qs]) (by simp [results,Tryz.results180,go_sem,z0,z1,z2]) rfl ⟨?_,below_set3 (by omega) (HBW.out _ HBc.out) _ _ _⟩
   have e1 := HRq.out
   have e2 := Hq.out
   subst e2
   rw [e1]
   exact .ok ⟨qk,qn,qs⟩
end
theorem nkids_le (s: ByteArray): kidsN s <= 2 := by
 unfold kidsN
 repeat' split
 all_goals decide
theorem nkids_one {s: ByteArray} (h: kidsN s = 1): s.toList = nNEG \/ s.toList = nNOT \/ s.toList = nNULL := by
 unfold kidsN at h
 split at h
 · cases h
 split at h
 · rename_i e; simpa [nops1] using e
 split at h
 · cases h
 · cases h
theorem nkids_two {s: ByteArray} (h: kidsN s = 2): s.toList ∈ nops2 := by
 unfold kidsN at h
 split at h
 · cases h
 split at h
 · cases h
 split at h
 · rename_i e; simpa using e
 · cases h
theorem eval_walk {ra: Option Addr} {rs: List RowL} {rc: Nat} (hF: RowsFit rs): ∀ n: Nat,EvIH n ra rs rc
 | 0 => fun k W left _ h => by cases h
 | n + 1 => fun k W left hI hd h1 h2 hR => by
  have IH := eval_walk (ra := ra) (rc := rc) hF n
  obtain ⟨xo,xk,xn,xs,xv,xc,xa,xp,l⟩ := k
  have hd': ∀ k ∈ l,deepN n k = false := fun k hk => by
   have: l.any (deepN n) = false := hd
   exact Bool.eq_false_iff.2 (List.any_eq_false.1 this k hk)
  have hS: Rw.SlG nC 7 W xa l := hI.2.1
  have hK: ∀ k ∈ l,InN n W k := hI.2.2
  have hE: evN (n + 1) rs (.mk xo xk xn xs xv xc xa xp l) = (if (l.length: Int) == kidsN xo then
   (if xo.toList == nVALUE then (⟨xk,xn,xs⟩,0)
   else if xo.toList == nCOLUMN then evCol rs xv xc
   else if xo.toList == nAND then evBoth 0 tAnd (evN n rs (l.headD zNL)) (evN n rs (l.tail.headD zNL))
   else if xo.toList == nOR then evBoth 1 tOr (evN n rs (l.headD zNL)) (evN n rs (l.tail.headD zNL))
   else if l.length == 1 then oneE xo.toList (evN n rs (l.headD zNL))
   else twoE xo (evN n rs (l.headD zNL)) (evN n rs (l.tail.headD zNL)))
  else (vz,15)) := rfl
  rw [hE]
  cases hk: ((l.length: Int) == kidsN xo)
  · exact eval_bad hk (by omega)
  cases k1: (xo.toList == nVALUE)
  · cases k2: (xo.toList == nCOLUMN)
    · have hk0: 1 <= kidsN xo := by
       unfold kidsN at hk ⊢
       rw [k1,k2] at hk ⊢
       simp only [Bool.or_false,Bool.false_eq_true,if_false] at hk ⊢
       split
       · decide
       split
       · decide
       · rename_i h3 h4
         rw [if_neg h3,if_neg h4] at hk
         simp at hk
      have hle := nkids_le xo
      have hle2: l.length = 1 \/ l.length = 2 := by
       have := eq_of_beq hk
       omega
      cases k3: (xo.toList == nAND)
      · cases k4: (xo.toList == nOR)
        · rcases hle2 with h | h
          · match l,h with
            | [k0],_ =>
             exact eval_one (by simpa using (eq_of_beq hk).symm) h1 h2 (nkids_one (by simpa using (eq_of_beq hk).symm)) IH (evN_fit (hK k0 (by simp)) hF) hR hS (hK k0 (by simp)) (hd' k0 (by simp))
          · match l,h with
            | [k0,k1'],_ =>
             exact eval_two (by simpa using (eq_of_beq hk).symm) h1 h2 k1 k2 k3 k4 IH (evN_fit (hK k0 (by simp)) hF) (evN_fit (hK k1' (by simp)) hF) hR hS (hK k0 (by simp)) (hd' k0 (by simp)) (hK k1' (by simp)) (hd' k1' (by simp))
        · have hk2: kidsN xo = 2 := by unfold kidsN; rw [eq_of_beq k4]; decide
          have hl: l.length = 2 := by have := eq_of_beq hk; omega
          match l,hl with
          | [k0,k1'],_ => exact eval_or hk2 h1 h2 (eq_of_beq k4) IH hR hS (hK k0 (by simp)) (hK k1' (by simp)) (hd' k0 (by simp)) (hd' k1' (by simp))
      · have hk2: kidsN xo = 2 := by unfold kidsN; rw [eq_of_beq k3]; decide
        have hl: l.length = 2 := by have := eq_of_beq hk; omega
        match l,hl with
        | [k0,k1'],_ => exact eval_and hk2 h1 h2 (eq_of_beq k3) IH hR hS (hK k0 (by simp)) (hK k1' (by simp)) (hd' k0 (by simp)) (hd' k1' (by simp))
    · exact eval_column hk (by omega) h2 (eq_of_beq k2) hR hF
  · exact eval_value hk (by omega) h2 (eq_of_beq k1)
theorem over_walk (a: Option Addr) (k c: Nat) (w: World): Calls Tryz.prog 133 #[.slice a k c] w fun e w' => e = .returned (scV a k c 65536) /\ Below w.heap.size w w' := by
 go_enter Tryz.func133,Tryz.ntmps133
 go_wp2
 exact bodyPost_ret (v := .agg #[.slice a k c, .int .i64 65536]) (by simp [results,Tryz.results133,go_sem]) rfl ⟨rfl,Rw.below_alloc _ _⟩
theorem came_ret {e: Ending} {c a: Int} {t: Bool} (h: Came e c a t) (he: e = .returned (.tuple #[])): c = 0 /\ a = 0 := by
 cases h with
 | done => exact ⟨rfl,rfl⟩
 | stop c a => cases he
theorem came_pan {e: Ending} {c a x: Int} {t: Bool} (h: Came e c a t) (he: e = .panicked (stopped x 0)): c = x /\ a = 0 := by
 cases h with
 | done => cases he
 | stop c a =>
  injection he with he
  injection he with h1 _
  injection h1 with h1 _
  injection h1 with _ h1
  unfold faultV at h1
  injection h1 with h1
  simp at h1
  exact h1
def xA: NL := .mk ⟨#[99,111,108,117,109,110]⟩ 0 0 ⟨#[]⟩ 0 0 none 0 []
def xB: NL := .mk ⟨#[99,111,108,117,109,110]⟩ 0 0 ⟨#[]⟩ 0 1 none 0 []
def xN (n: Int): NL := .mk ⟨#[118,97,108,117,101]⟩ 2 n ⟨#[]⟩ 0 0 none 0 []
def H2 (w: World) (p: Nat) (x y: NL): Prop := w.heap[p]? = some (.cells (nC x ++ nC y).toArray 44 (0,0))
theorem slg_flat {α: Type} {f: α -> List Value} {k: Nat} (hf: ∀ x,(f x).length = k) {W: World} {b: Nat} {l: List α} {T: TypeId} {fz: Nat × Nat} (h: W.heap[b]? = some (.cells (Rw.flat f l).toArray T fz)): Rw.SlG f k W (some ⟨b,0,none⟩) l := by
 refine Or.inr ⟨b,0,rfl,(Array.getElem?_eq_some_iff.1 h).1,fun j x hj i u hu => ?_⟩
 rw [Nat.zero_add,cell_of_row _ _ _ _ _ _ h]
 have := Rw.flat_at hf l j x hj i u hu
 simpa using this
theorem H2.slg {w: World} {p: Nat} {x y: NL} (h: H2 w p x y): Rw.SlG nC 7 w (some ⟨p,0,none⟩) [x,y] := slg_flat nC_len (by have h' := h; unfold H2 at h'; simpa [Rw.flat] using h')
theorem leafN {x: NL} (hk: x.kids = []) (h: NOk x): ∀ n w,InN n w x
 | 0,_ => trivial
 | n + 1,w => ⟨h,by rw [hk]; exact Or.inl rfl,fun k hk' => by rw [hk] at hk'; cases hk'⟩
theorem twoN {x y k: NL} {p: Nat} {w: World} (hx: NOk k) (ha: k.a = some ⟨p,0,none⟩) (hkk: k.kids = [x,y]) (h: H2 w p x y) (h1: ∀ n,InN n w x) (h2: ∀ n,InN n w y): ∀ n,InN n w k
 | 0 => trivial
 | n + 1 => ⟨hx,by rw [ha,hkk]; exact h.slg,fun z hz => by
  rw [hkk] at hz
  simp only [List.mem_cons,List.not_mem_nil,or_false] at hz
  rcases hz with rfl | rfl
  · exact h1 n
  · exact h2 n⟩
theorem smallN {x: NL} (h1: fits x.vk = true) (h2: fits x.vn = true) (h3: x.op.size <= 6) (h4: x.vs.size <= 6) (h7: x.kids.length <= 6): NOk x :=
 ⟨h1,h2,by omega,by omega,by omega⟩
theorem slot_of {a: Act} {t: Nat} {v: Value} (h: a.eval (.tmp t) = v): a.tmps[t]?.getD undef = v := by simpa [Act.eval] using h
section
variable {Q: Exit -> Act -> World -> Prop} {K: Act -> World -> Prop} {o: Oper} {a: Act} {w: World}
theorem ncells' {W: World} {p: Nat} {k: NL} (h: W.heap[p]? = some (.cells (nC k).toArray 44 (0,0))): W.cell? ⟨p,0,none⟩ = some (.string k.op) /\ W.cell? ⟨p,1,none⟩ = some (.int .i64 k.vk) /\ W.cell? ⟨p,2,none⟩ = some (.int .i64 k.vn) /\ W.cell? ⟨p,3,none⟩ = some (.string k.vs) /\ W.cell? ⟨p,4,none⟩ = some (.int .i64 k.var) /\ W.cell? ⟨p,5,none⟩ = some (.int .i64 k.col) /\ W.cell? ⟨p,6,none⟩ = some (.slice k.a k.kids.length k.c) := by
 refine ⟨?_, ?_, ?_, ?_, ?_, ?_, ?_⟩ <;> (rw [cell_of_row _ _ _ _ _ _ h]; rfl)
theorem aop_load {s p: Nat} {x: NL} (ho: o.op = .load 44 (.tmp s)) (hs: a.eval (.tmp s) = .pointer (some ⟨p,0,none⟩)) (hc: w.heap[p]? = some (.cells (nC x).toArray 44 (0,0))) (hK: K (a.put o.dst (nV x)) w): Oper.wp Tryz.prog o a w K Q := by
 have hs' := slot_of hs
 obtain ⟨c0,c1,c2,c3,c4,c5,c6⟩ := ncells' hc
 unfold Oper.wp
 simp [execOp,ho,go_sem,hs',c0,c1,c2,c3,c4,c5,c6]
 exact hK
theorem aop_alloc (ho: o.op = .alloc 44) (hK: K (a.put o.dst (.pointer (some ⟨w.heap.size,0,none⟩))) (w.alloc (.cells (nC zNL).toArray 44))): Oper.wp Tryz.prog o a w K Q := by
 unfold Oper.wp
 simp [execOp,ho,go_sem]
 exact hK
end
end Go.Proofs.YteibhbnlcpejpaaGreat
