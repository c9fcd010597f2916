import Derived.Laws.EntriesVeiled
import Derived.Test.YteibhbnlcpejpaaGreatMBK
set_option maxRecDepth 100000
set_option maxHeartbeats 4000000
namespace Go.Proofs.YteibhbnlcpejpaaGreat
open Go.RowKit
def AskX (g: FuncId) (caps: Array Value) (l: List XL) (f: XL -> Bool) (w: World): Prop := ∀ k ∈ l,∀ W,Below w.heap.size w W -> Calls Tryz.prog g (#[xV k] ++ caps) W fun e W' => e = .returned (.bool (f k)) /\ Below W.heap.size W W'
def IdxPA {α: Type} (l: List α) (f: α -> Bool) (w: World) (e: Ending) (W: World): Prop := ∃ v: Int,e = .returned (.int .i64 v) /\ decide (0 <= v) = l.any f /\ -1 <= v /\ v <= 1353245080300 /\ Below w.heap.size w W
theorem idxX_walk {l: List XL} {f: XL -> Bool} {a: Option Addr} {c r: Nat} {w: World} (hS: Rw.SlG xC 7 w a l) (hl: l.length <= 1353245080300) (hA: AskX 188 #[.pointer (some ⟨r,0,none⟩)] l f w) :
 Calls Tryz.prog 208 #[.slice a l.length c, .func (.func 188) #[] #[.pointer (some ⟨r,0,none⟩)]] w (IdxPA l f w) := by
 have HS := Rw.dh hS
 have HA := Rw.dh hA
 clear hS hA
 go_enter Tryz.func208,Tryz.ntmps208
 go_wp2_with fail
 go_loopw [8] (fun i wr => ∃ j: Nat,j <= l.length /\ i = .int .i64 (j: Int) /\ Hid (Below w.heap.size w wr /\ (l.take j).any f = false)) (fun i _ => l.length - (intOf i).toNat)
 case atStart => exact ⟨0,Nat.zero_le _,rfl,Below.refl _ _,rfl⟩
 case round =>
  obtain ⟨j,hj,rfl,HR⟩ := hrel
  by_cases hlt: j < l.length
  · obtain ⟨b,o,k,rfl,hb,hx,hc⟩ := (HS.out.below HR.out.1).at hlt
    have HX := Rw.dh hx
    have C1 := Rw.dh (HA.out k (List.mem_of_getElem? hx) wr HR.out.1)
    have c0: wr.cell? ⟨b,o + j * 7,none⟩ = some (.string k.op) := hc 0 _ rfl
    have c1: wr.cell? ⟨b,o + j * 7 + 1,none⟩ = some (.int .i64 k.vk) := hc 1 _ rfl
    have c2: wr.cell? ⟨b,o + j * 7 + 2,none⟩ = some (.int .i64 k.vn) := hc 2 _ rfl
    have c3: wr.cell? ⟨b,o + j * 7 + 3,none⟩ = some (.string k.vs) := hc 3 _ rfl
    have c4: wr.cell? ⟨b,o + j * 7 + 4,none⟩ = some (.string k.var) := hc 4 _ rfl
    have c5: wr.cell? ⟨b,o + j * 7 + 5,none⟩ = some (.string k.col) := hc 5 _ rfl
    have c6: wr.cell? ⟨b,o + j * 7 + 6,none⟩ = some (.slice k.a k.kids.length k.c) := hc 6 _ rfl
    clear hc hx
    go_wp2_with fail
    refine C1.out.mono ?_
    rintro e w1 ⟨rfl,hb1⟩
    have HB1 := Rw.dh (dig_below_on HR.out.1 hb1)
    clear hb1 c0 c1 c2 c3 c4 c5 c6
    cases hd: f k
    · go_wp2
      go_roundw
      case rel => exact ⟨j + 1,hlt,by go_num,HB1.out,any_take_false HX.out HR.out.2 hd⟩
      case measure => simp [intOf]; omega
    · go_wp2
      go_ret
      refine ⟨j,rfl, ?_,by omega,by omega,HB1.out⟩
      rw [List.any_eq_true.2 ⟨k,List.mem_of_getElem? HX.out,hd⟩]
      simp
  · have hjs: j = l.length := by omega
    subst hjs
    go_wp2
    go_ret
    refine ⟨-1,rfl, ?_,by omega,by omega,HR.out.1⟩
    have := HR.out.2
    rw [List.take_length] at this
    rw [this]
    simp
theorem conX_walk {l: List XL} {f: XL -> Bool} {a: Option Addr} {c r: Nat} {w: World} (hS: Rw.SlG xC 7 w a l) (hl: l.length <= 1353245080300) (hA: AskX 188 #[.pointer (some ⟨r,0,none⟩)] l f w) :
 Calls Tryz.prog 187 #[.slice a l.length c, .func (.func 188) #[] #[.pointer (some ⟨r,0,none⟩)]] w fun e W => e = .returned (.bool (l.any f)) /\ Below w.heap.size w W := by
 have HC := Rw.dh (idxX_walk (c := c) hS hl hA)
 clear hS hA
 go_enter Tryz.func187,Tryz.ntmps187
 go_wp2_with fail
 refine HC.out.mono ?_
 rintro e w1 ⟨v,rfl,hv,h1,h2,hb⟩
 have HV := Rw.dh hv
 clear hv HC
 go_wp2
 all_goals
  go_ret
  exact ⟨Rw.ret_bool (by rw [<- HV.out]),hb⟩
theorem allX1_rw {q: Nat} {l: List XL} {f: XL -> Bool} {r: Nat} {w: World} (hr: w.cell? ⟨r,0,none⟩ = some (.func (.func 148) #[] #[.pointer (some ⟨q,0,none⟩)])) (hA: AskX 148 #[.pointer (some ⟨q,0,none⟩)] l f w): AskX 188 #[.pointer (some ⟨r,0,none⟩)] l (fun x => !f x) w := by
 intro k hk W hb
 have HA := Rw.dh (fun W' (hb': Below W.heap.size W W') => hA k hk W' (dig_below_on hb hb'))
 have hrl := World.block_lt_of_cell? _ _ hr
 have hr': W.cell? ⟨r,0,none⟩ = some (.func (.func 148) #[] #[.pointer (some ⟨q,0,none⟩)]) := by rw [hb.cell hrl]; exact hr
 have hrl': r < W.heap.size := Nat.lt_of_lt_of_le hrl hb.size
 clear hA hr
 show Calls Tryz.prog 188 #[.agg #[.string k.op, .int .i64 k.vk, .int .i64 k.vn, .string k.vs, .string k.var, .string k.col, .slice k.a k.kids.length k.c], .pointer (some ⟨r,0,none⟩)] W _
 go_enter Tryz.func188,Tryz.ntmps188
 go_wp2_with fail
 refine (HA.out _ (Rw.below_alloc _ _)).mono ?_
 rintro e w1 ⟨rfl,hb1⟩
 have HB := Rw.dh (dig_below_on (Rw.below_alloc W _) hb1)
 clear hb1
 go_wp2
 go_ret
 exact ⟨rfl,HB.out⟩
theorem any_not_all (l: List XL) (f: XL -> Bool): (!l.any (fun x => !f x)) = l.all f := by
 induction l with
 | nil => rfl
 | cons x l ih => rw [List.any_cons,List.all_cons,Bool.not_or,ih,Bool.not_not]
theorem allX_rw {q: Nat} {l: List XL} {f: XL -> Bool} {a: Option Addr} {c: Nat} {w: World} (hS: Rw.SlG xC 7 w a l) (hl: l.length <= 1353245080300) (hA: AskX 148 #[.pointer (some ⟨q,0,none⟩)] l f w) :
 Calls Tryz.prog 147 #[.slice a l.length c, .func (.func 148) #[] #[.pointer (some ⟨q,0,none⟩)]] w fun e W => e = .returned (.bool (l.all f)) /\ Below w.heap.size w W := by
 have HC := Rw.dh (fun (W: World) (hb: Below w.heap.size w W) (hr: W.cell? ⟨w.heap.size,0,none⟩ = some (.func (.func 148) #[] #[.pointer (some ⟨q,0,none⟩)])) => conX_walk (c := c) (hS.below hb) hl (allX1_rw hr fun k hk W' hb' => hA k hk W' (dig_below_on hb hb')))
 clear hS hA
 go_enter Tryz.func147,Tryz.ntmps147
 go_wp2_with fail
 refine (HC.out _ (Rw.below_alloc _ _) (by simp [go_sem])).mono ?_
 rintro e w1 ⟨rfl,hb1⟩
 have HB := Rw.dh (dig_below_on (Rw.below_alloc w _) hb1)
 have HN := Rw.dh (any_not_all l f)
 clear hb1 HC
 generalize l.any (fun x => !f x) = y at *
 go_wp2
 go_ret
 exact ⟨Rw.ret_bool HN.out,HB.out⟩
def nonB (s: ByteArray): Bool := s.toList == [] || nameB s
theorem non_walk (s: ByteArray) (w: World) (hs: s.size <= maxLen): Calls Tryz.prog 146 #[.string s] w fun e w' => e = .returned (.bool (nonB s)) /\ w' = w := by
 have HN := Rw.dh (fun W => name_walk s W hs)
 clear hs
 obtain ⟨R,HR⟩: ∃ R,Hid (nonB s = R) := ⟨_,rfl⟩
 rw [HR.out]
 cases hn: nameB s
 all_goals
  rw [hn] at HN
  go_enter Tryz.func146,Tryz.ntmps146
  go_wp2_with (go_at_call 145; refine (HN.out _).mono ?_; rintro e w1 ⟨rfl,rfl⟩)
  all_goals
   go_ret
   refine ⟨Rw.ret_bool ?_,rfl⟩
   rw [<- HR.out]
   simp [nonB, *]
theorem rw1_walk {n: Nat} (IH: ∀ (x: XL) (w: World),In n w x -> Calls Tryz.prog 107 #[xV x, .int .i64 n] w fun e W => e = .returned (.bool (rightX n x)) /\ Below w.heap.size w W) {l: List XL} {q: Nat} {w: World} {N: Int} (hN1: 1 <= N) (hN2: N <= 1001) (hN3: N - 1 = (n: Int)) (hq: w.cell? ⟨q,0,none⟩ = some (.int .i64 N)) (hI: ∀ k ∈ l,In n w k) :
 AskX 148 #[.pointer (some ⟨q,0,none⟩)] l (rightX n) w := by
 intro k hk W hb
 have HC := Rw.dh (fun W' (hb': Below W.heap.size W W') => IH k W' ((hI k hk).on (dig_below_on hb hb')))
 have hql := World.block_lt_of_cell? _ _ hq
 have hq': W.cell? ⟨q,0,none⟩ = some (.int .i64 N) := by rw [hb.cell hql]; exact hq
 have hql': q < W.heap.size := Nat.lt_of_lt_of_le hql hb.size
 clear IH hI hq
 show Calls Tryz.prog 148 #[.agg #[.string k.op, .int .i64 k.vk, .int .i64 k.vn, .string k.vs, .string k.var, .string k.col, .slice k.a k.kids.length k.c], .pointer (some ⟨q,0,none⟩)] W _
 go_enter Tryz.func148,Tryz.ntmps148
 go_wp2_with fail
 refine (HC.out _ (Rw.below_alloc _ _)).mono ?_
 rintro e w1 ⟨rfl,hb1⟩
 have HB := Rw.dh (dig_below_on (Rw.below_alloc W _) hb1)
 clear hb1
 go_wp2
 go_ret
 exact ⟨rfl,HB.out⟩
theorem rightX_kids {n: Nat} {xo: ByteArray} {xk xn: Int} {xs xv xc: ByteArray} {xa: Option Addr} {xp: Nat} {l: List XL} (h: ((l.length: Int) == kidsI xo) = false): rightX (n + 1) (.mk xo xk xn xs xv xc xa xp l) = false := by
 show (decide (((l.length: Nat): Int) = kidsI xo) && _) = _
 rw [decide_eq_false (by simpa using h),Bool.false_and]
theorem rw_walk: ∀ (n: Nat),n <= 1000 -> ∀ (x: XL) (w: World),In n w x -> Calls Tryz.prog 107 #[xV x, .int .i64 n] w fun e W => e = .returned (.bool (rightX n x)) /\ Below w.heap.size w W
 | 0,_, .mk xo xk xn xs xv xc xa xp l,w,_ => by
  show Calls Tryz.prog 107 #[.agg #[.string xo, .int .i64 xk, .int .i64 xn, .string xs, .string xv, .string xc, .slice xa l.length xp], .int .i64 0] w _
  obtain ⟨N,hz,hN⟩: ∃ N: Int,(N == 0) = true /\ (0: Int) = N := ⟨_,rfl,rfl⟩
  rw [hN]
  clear hN
  have HKi := Rw.dh (fun W => kids_walk xo W)
  go_enter Tryz.func107,Tryz.ntmps107
  go_wp2_with fail
  go_quiet (first | (go_at_call 143; exact Calls.quiet_of_same (HKi.out _)))
  go_wp2
  go_ret
  exact ⟨rfl,below_drewN ((Rw.below_alloc _ _).alloc (by simp) _) _⟩
 | n + 1,hn, .mk xo xk xn xs xv xc xa xp l,w,hi => by
  have IH := Rw.dh (rw_walk n (by omega))
  have HI := Rw.dh hi
  have hkl: l.length <= 1353245080300 := hi.1.kids
  clear hi
  obtain ⟨N,hN1,hN2,hN3,hN⟩: ∃ N: Int,1 <= N /\ N <= 1001 /\ N - 1 = (n: Int) /\ ((n + 1: Nat): Int) = N := ⟨_,by omega,by omega,by omega,rfl⟩
  have hz: (N == 0) = false := beq_eq_false_iff_ne.2 (by omega)
  show Calls Tryz.prog 107 #[.agg #[.string xo, .int .i64 xk, .int .i64 xn, .string xs, .string xv, .string xc, .slice xa l.length xp], .int .i64 (n + 1: Nat)] w _
  rw [hN]
  clear hN
  obtain ⟨R,HR⟩: ∃ R,Hid (rightX (n + 1) (.mk xo xk xn xs xv xc xa xp l) = R) := ⟨_,rfl⟩
  rw [HR.out]
  have HKi := Rw.dh (fun W => kids_walk xo W)
  obtain ⟨K,HKK⟩: ∃ K,Hid (kidsI xo = K) := ⟨_,rfl⟩
  rw [HKK.out] at HKi
  go_enter Tryz.func107,Tryz.ntmps107
  go_wp2_with fail
  cases hk: ((l.length: Int) == K)
  · have HE: Hid (R = false) := by
     show _ = _
     rw [<- HR.out,rightX_kids (by rw [HKK.out]; exact hk)]
    go_quiet (first | (go_at_call 143; exact Calls.quiet_of_same (HKi.out _)))
    go_wp2
    go_ret
    exact ⟨Rw.ret_bool HE.out.symm,below_drewN ((Rw.below_alloc _ _).alloc (by simp) _) _⟩
  · go_quiet (first | (go_at_call 143; exact Calls.quiet_of_same (HKi.out _)))
    have B2: Hid (∀ o1 o2 m,Below w.heap.size w (((w.alloc o1).alloc o2).drewN m)) := fun o1 o2 m => below_drewN ((Rw.below_alloc _ _).alloc (by simp) _) m
    have hk': (l.length: Int) = kidsI xo := by rw [HKK.out]; exact eq_of_beq hk
    cases h1: (xo.toList == [118,97,108,117,101])
    · cases h2: (xo.toList == [99,111,108,117,109,110])
      · have HA: Hid (∀ W,Below w.heap.size w W -> W.cell? ⟨w.heap.size + 1,0,none⟩ = some (.int .i64 N) -> Calls Tryz.prog 147 #[.slice xa l.length xp, .func (.func 148) #[] #[.pointer (some ⟨w.heap.size + 1,0,none⟩)]] W fun e W' => e = .returned (.bool (l.all (rightX n))) /\ Below W.heap.size W W') :=
         fun W hb hc => allX_rw (HI.out.2.1.below hb) hkl (rw1_walk IH.out hN1 hN2 hN3 hc fun k hk => (HI.out.2.2 k hk).on hb)
        have HE: Hid (R = (xk == 0 && xn == 0 && xs.toList == [] && xv.toList == [] && xc.toList == [] && l.all (rightX n))) := by
         show _ = _
         rw [<- HR.out,rightX_other (m := l.length) h1 h2 hk'.symm]
         simp
        clear HI IH HR HKi HKK hk'
        generalize l.all (rightX n) = A at HA HE
        go_wp2_with (go_at_call 147; refine (HA.out _ (B2.out _ _ _) (by simp [go_sem])).mono ?_; rintro e w1 ⟨rfl,hb1⟩)
        all_goals
         go_ret
         refine ⟨Rw.ret_bool ?_,by first | exact B2.out _ _ _ | exact dig_below_on (B2.out _ _ _) hb1⟩
         rw [HE.out]
         simp [*]
      · have HE: Hid (R = (xk == 0 && xn == 0 && xs.toList == [] && nameB xc && nonB xv)) := by
         show _ = _
         rw [<- HR.out,rightX_column h2]
         rw [kidsI_column h2] at hk'
         rw [decide_eq_true (by omega),Bool.true_and]
         rfl
        have HN1 := Rw.dh (fun W => name_walk xc W HI.out.1.col)
        have HN2 := Rw.dh (fun W => non_walk xv W HI.out.1.var)
        clear HI IH HR HKi HKK hk'
        generalize nonB xv = A at HN2 HE
        cases hn: nameB xc
        all_goals
         rw [hn] at HN1 HE
         go_wp2_with (first | (go_at_call 145; refine (HN1.out _).mono ?_; rintro e w1 ⟨rfl,rfl⟩) | (go_at_call 146; refine (HN2.out _).mono ?_; rintro e w1 ⟨rfl,rfl⟩))
         all_goals
          go_ret
          refine ⟨Rw.ret_bool ?_,B2.out _ _ _⟩
          rw [HE.out]
          simp [*]
    · have HE: Hid (R = (xv.toList == [] && xc.toList == [] && rightB xk xn xs && decide (0 <= xn))) := by
       show _ = _
       rw [<- HR.out,rightX_value h1]
       rw [kidsI_value h1] at hk'
       rw [decide_eq_true (by omega),Bool.true_and]
      have HRi: Hid (∀ W,Calls Tryz.prog 144 #[.agg #[.int .i64 xk, .int .i64 xn, .string xs]] W fun e W' => e = .returned (.bool (rightB xk xn xs)) /\ Below W.heap.size W W') := fun W => right_walk xk xn xs W
      clear HI IH HR HKi HKK hk'
      cases hr: rightB xk xn xs
      all_goals
       rw [hr] at HRi HE
       go_wp2_with (go_at_call 144; refine (HRi.out _).mono ?_; rintro e w1 ⟨rfl,hb1⟩; have d2: w1.cell? ⟨w.heap.size,2,none⟩ = some (.int .i64 xn) := (by rw [hb1.cell (by simp; omega)]; simp [go_sem]))
       all_goals
        go_ret
        refine ⟨Rw.ret_bool ?_,by first | exact B2.out _ _ _ | exact dig_below_on (B2.out _ _ _) hb1⟩
        rw [HE.out]
        simp [*]
theorem rx_walk (x: XL) (w: World) (h: In 20 w x): Calls Tryz.prog 61 #[xV x] w fun e W => e = .returned (.bool (rightX 20 x)) /\ Below w.heap.size w W := by
 have HC := Rw.dh (fun W (hb: Below w.heap.size w W) => rw_walk 20 (by omega) x W (h.on hb))
 clear h
 obtain ⟨xo,xk,xn,xs,xv,xc,xa,xp,l⟩ := x
 show Calls Tryz.prog 61 #[.agg #[.string xo, .int .i64 xk, .int .i64 xn, .string xs, .string xv, .string xc, .slice xa l.length xp]] w _
 go_enter Tryz.func61,Tryz.ntmps61
 go_wp2_with fail
 refine (HC.out _ (by first | exact Rw.below_alloc _ _ | exact Below.refl _ _)).mono ?_
 rintro e w1 ⟨rfl,hb1⟩
 have HB := Rw.dh hb1
 clear hb1
 go_wp2
 go_ret
 exact ⟨rfl,by first | exact HB.out | exact dig_below_on (Rw.below_alloc _ _) HB.out⟩
end Go.Proofs.YteibhbnlcpejpaaGreat
