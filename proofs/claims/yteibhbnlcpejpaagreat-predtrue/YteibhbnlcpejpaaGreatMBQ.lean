import Derived.Test.YteibhbnlcpejpaaGreatMBK
set_option maxRecDepth 100000
set_option maxHeartbeats 4000000
namespace Go.Proofs.YteibhbnlcpejpaaGreat
open Go.RowKit
set_option linter.unusedVariables false in
theorem rrx_not {n: Nat} {xo: ByteArray} {xk xn: Int} {xs xv xc: ByteArray} {xa: Option Addr} {xp: Nat} {l: List XL} {w: World} {N: Int} {R: Bool} (IH: Hid (∀ (x: XL) (w: World),In n w x -> Calls Tryz.prog 12 #[xV x, .int .i64 n] w fun e W => e = .returned (.bool (rightX n x)) /\ Below w.heap.size w W)) (HI: Hid (In (n + 1) w (.mk xo xk xn xs xv xc xa xp l))) (hkl: l.length <= 1353245080300) (hN1: 1 <= N) (hN2: N <= 1001) (hN3: N - 1 = (n: Int)) (hz: decide (N < 1) = false) (HR: Hid (rightX (n + 1) (.mk xo xk xn xs xv xc xa xp l) = R)) (h1: (xo.toList == [118,97,108,117,101]) = false) (h2: (xo.toList == [99,111,108,117,109,110]) = false) (h3: (xo.toList == [110,101,103]) = false) (h4: (xo.toList == [110,111,116]) = true) :
 Calls Tryz.prog 12 #[.agg #[.string xo, .int .i64 xk, .int .i64 xn, .string xs, .string xv, .string xc, .slice xa l.length xp], .int .i64 N] w fun e W => e = .returned (.bool R) /\ Below w.heap.size w W := by
 have HT := Rw.dh (fun W => two_walk xo W)
 have hT: isTwo xo = false := by unfold isTwo; rw [bl_eq h4]; decide
 rw [hT] at HT
 have HE: Hid (R = (decide (l.length = 1) && (xk == 0 && xn == 0 && xs.toList == [] && xv.toList == [] && xc.toList == [] && l.all (rightX n)))) := HR.out.symm.trans (rightX_other h1 h2 (by unfold kidsI; rw [bl_eq h4]; decide))
 by_cases hG: l.length = 1 /\ xk = 0 /\ xn = 0 /\ xs.toList = [] /\ xv.toList = [] /\ xc.toList = []
 · have HE2: Hid (R = l.all (rightX n)) := by show _ = _; rw [HE.out]; obtain ⟨g1,g2,g3,g4,g5,g6⟩ := hG; simp [g1,g2,g3,g4,g5,g6]
   have HS: Hid (Rw.SlG xC 7 w xa l) := HI.out.2.1
   have HK: Hid (∀ k ∈ l,In n w k) := HI.out.2.2
   obtain ⟨hlen,rfl,rfl,hxs,hxv,hxc⟩ := hG
   have HLn := Rw.dh hlen
   clear HI HR HE
   go_enter Tryz.func12,Tryz.ntmps12
   go_wp2_with (go_at_call 67; refine (HT.out _).mono ?_; rintro e w1 ⟨rfl,hb1⟩; obtain ⟨d0,d1,d2,d3,d4,d5,d6,e0,e1,e2,hB1⟩ := after2 hb1; clear hb1)
   go_loopw [7] (fun i wr => ∃ j: Nat,j <= 1 /\ i = .int .i64 (j: Int) /\ Hid (Below w.heap.size w wr /\ (l.take j).all (rightX n) = true) /\ wr.cell? ⟨w.heap.size,6,none⟩ = some (.slice xa 1 xp)) (fun i _ => 1 - (intOf i).toNat)
   case atStart => exact ⟨0,Nat.zero_le _,rfl,⟨hB1,rfl⟩,d6⟩
   case round =>
    obtain ⟨j,hj,rfl,HR,hcell⟩ := hrel
    have hsl: w.heap.size < wr.heap.size := World.block_lt_of_cell? _ _ hcell
    by_cases hlt: j < 1
    · obtain ⟨b,o,k,rfl,hb,hx,hc⟩ := (HS.out.below HR.out.1).at (j := j) (by rw [HLn.out]; exact hlt)
      have HX := Rw.dh hx
      have HC := Rw.dh (fun W (hW: Below wr.heap.size wr W) => IH.out k W ((HK.out k (List.mem_of_getElem? hx)).on (dig_below_on HR.out.1 hW)))
      have c0: wr.cell? ⟨b,o + j * 7,none⟩ = some (.string k.op) := hc 0 _ rfl
      have c1: wr.cell? ⟨b,o + j * 7 + 1,none⟩ = some (.int .i64 k.vk) := hc 1 _ rfl
      have c2: wr.cell? ⟨b,o + j * 7 + 2,none⟩ = some (.int .i64 k.vn) := hc 2 _ rfl
      have c3: wr.cell? ⟨b,o + j * 7 + 3,none⟩ = some (.string k.vs) := hc 3 _ rfl
      have c4: wr.cell? ⟨b,o + j * 7 + 4,none⟩ = some (.string k.var) := hc 4 _ rfl
      have c5: wr.cell? ⟨b,o + j * 7 + 5,none⟩ = some (.string k.col) := hc 5 _ rfl
      have c6: wr.cell? ⟨b,o + j * 7 + 6,none⟩ = some (.slice k.a k.kids.length k.c) := hc 6 _ rfl
      clear hc hx
      cases hr: rightX n k
      all_goals
       rw [hr] at HC
       go_wp2_with fail
       refine (HC.out _ (by first | exact Below.refl _ _ | exact Rw.below_alloc _ _)).mono ?_
       rintro e w2 ⟨rfl,hb2⟩
       have HB2 := Rw.dh (dig_below_on HR.out.1 hb2)
       have hcell2: w2.cell? ⟨w.heap.size,6,none⟩ = some (.slice (some ⟨b,o,none⟩) 1 xp) := by rw [hb2.cell hsl]; exact hcell
       clear hb2 HC c0 c1 c2 c3 c4 c5 c6
       go_wp2
      · go_ret
        refine ⟨Rw.ret_bool ?_,HB2.out⟩
        rw [HE2.out]
        exact (all_false (List.mem_of_getElem? HX.out) hr).symm
      · go_roundw
        case rel => exact ⟨j + 1,hlt,by go_num,⟨HB2.out,all_take_true HX.out HR.out.2 hr⟩,hcell2⟩
        case measure => simp [intOf]; omega
    · have hjs: j = 1 := by omega
      subst hjs
      go_wp2
      go_ret
      refine ⟨Rw.ret_bool ?_,HR.out.1⟩
      have := HR.out.2
      rw [<- HLn.out,List.take_length] at this
      rw [HE2.out,this]
 · have HF: Hid (R = false) := by
    show _ = _
    rw [HE.out]
    exact not_six hG
   clear HI HR HE IH
   have hGn := Rw.dh hG
   clear hG
   go_enter Tryz.func12,Tryz.ntmps12
   go_wp2_with (go_at_call 67; refine (HT.out _).mono ?_; rintro e w1 ⟨rfl,hb1⟩; obtain ⟨d0,d1,d2,d3,d4,d5,d6,e0,e1,e2,hB1⟩ := after2 hb1; clear hb1)
   all_goals first
    | (go_ret; exact ⟨Rw.ret_bool HF.out.symm,hB1⟩)
    | (exfalso; refine hGn.out ⟨?_, ?_, ?_, ?_, ?_, ?_⟩ <;> first | assumption | omega | (simp_all; done))
set_option linter.unusedVariables false in
theorem rrx_null {n: Nat} {xo: ByteArray} {xk xn: Int} {xs xv xc: ByteArray} {xa: Option Addr} {xp: Nat} {l: List XL} {w: World} {N: Int} {R: Bool} (IH: Hid (∀ (x: XL) (w: World),In n w x -> Calls Tryz.prog 12 #[xV x, .int .i64 n] w fun e W => e = .returned (.bool (rightX n x)) /\ Below w.heap.size w W)) (HI: Hid (In (n + 1) w (.mk xo xk xn xs xv xc xa xp l))) (hkl: l.length <= 1353245080300) (hN1: 1 <= N) (hN2: N <= 1001) (hN3: N - 1 = (n: Int)) (hz: decide (N < 1) = false) (HR: Hid (rightX (n + 1) (.mk xo xk xn xs xv xc xa xp l) = R)) (h1: (xo.toList == [118,97,108,117,101]) = false) (h2: (xo.toList == [99,111,108,117,109,110]) = false) (h3: (xo.toList == [110,101,103]) = false) (h4: (xo.toList == [110,111,116]) = false) (h5: (xo.toList == [110,117,108,108]) = true) :
 Calls Tryz.prog 12 #[.agg #[.string xo, .int .i64 xk, .int .i64 xn, .string xs, .string xv, .string xc, .slice xa l.length xp], .int .i64 N] w fun e W => e = .returned (.bool R) /\ Below w.heap.size w W := by
 have HT := Rw.dh (fun W => two_walk xo W)
 have hT: isTwo xo = false := by unfold isTwo; rw [bl_eq h5]; decide
 rw [hT] at HT
 have HE: Hid (R = (decide (l.length = 1) && (xk == 0 && xn == 0 && xs.toList == [] && xv.toList == [] && xc.toList == [] && l.all (rightX n)))) := HR.out.symm.trans (rightX_other h1 h2 (by unfold kidsI; rw [bl_eq h5]; decide))
 by_cases hG: l.length = 1 /\ xk = 0 /\ xn = 0 /\ xs.toList = [] /\ xv.toList = [] /\ xc.toList = []
 · have HE2: Hid (R = l.all (rightX n)) := by show _ = _; rw [HE.out]; obtain ⟨g1,g2,g3,g4,g5,g6⟩ := hG; simp [g1,g2,g3,g4,g5,g6]
   have HS: Hid (Rw.SlG xC 7 w xa l) := HI.out.2.1
   have HK: Hid (∀ k ∈ l,In n w k) := HI.out.2.2
   obtain ⟨hlen,rfl,rfl,hxs,hxv,hxc⟩ := hG
   have HLn := Rw.dh hlen
   clear HI HR HE
   go_enter Tryz.func12,Tryz.ntmps12
   go_wp2_with (go_at_call 67; refine (HT.out _).mono ?_; rintro e w1 ⟨rfl,hb1⟩; obtain ⟨d0,d1,d2,d3,d4,d5,d6,e0,e1,e2,hB1⟩ := after2 hb1; clear hb1)
   go_loopw [7] (fun i wr => ∃ j: Nat,j <= 1 /\ i = .int .i64 (j: Int) /\ Hid (Below w.heap.size w wr /\ (l.take j).all (rightX n) = true) /\ wr.cell? ⟨w.heap.size,6,none⟩ = some (.slice xa 1 xp)) (fun i _ => 1 - (intOf i).toNat)
   case atStart => exact ⟨0,Nat.zero_le _,rfl,⟨hB1,rfl⟩,d6⟩
   case round =>
    obtain ⟨j,hj,rfl,HR,hcell⟩ := hrel
    have hsl: w.heap.size < wr.heap.size := World.block_lt_of_cell? _ _ hcell
    by_cases hlt: j < 1
    · obtain ⟨b,o,k,rfl,hb,hx,hc⟩ := (HS.out.below HR.out.1).at (j := j) (by rw [HLn.out]; exact hlt)
      have HX := Rw.dh hx
      have HC := Rw.dh (fun W (hW: Below wr.heap.size wr W) => IH.out k W ((HK.out k (List.mem_of_getElem? hx)).on (dig_below_on HR.out.1 hW)))
      have c0: wr.cell? ⟨b,o + j * 7,none⟩ = some (.string k.op) := hc 0 _ rfl
      have c1: wr.cell? ⟨b,o + j * 7 + 1,none⟩ = some (.int .i64 k.vk) := hc 1 _ rfl
      have c2: wr.cell? ⟨b,o + j * 7 + 2,none⟩ = some (.int .i64 k.vn) := hc 2 _ rfl
      have c3: wr.cell? ⟨b,o + j * 7 + 3,none⟩ = some (.string k.vs) := hc 3 _ rfl
      have c4: wr.cell? ⟨b,o + j * 7 + 4,none⟩ = some (.string k.var) := hc 4 _ rfl
      have c5: wr.cell? ⟨b,o + j * 7 + 5,none⟩ = some (.string k.col) := hc 5 _ rfl
      have c6: wr.cell? ⟨b,o + j * 7 + 6,none⟩ = some (.slice k.a k.kids.length k.c) := hc 6 _ rfl
      clear hc hx
      cases hr: rightX n k
      all_goals
       rw [hr] at HC
       go_wp2_with fail
       refine (HC.out _ (by first | exact Below.refl _ _ | exact Rw.below_alloc _ _)).mono ?_
       rintro e w2 ⟨rfl,hb2⟩
       have HB2 := Rw.dh (dig_below_on HR.out.1 hb2)
       have hcell2: w2.cell? ⟨w.heap.size,6,none⟩ = some (.slice (some ⟨b,o,none⟩) 1 xp) := by rw [hb2.cell hsl]; exact hcell
       clear hb2 HC c0 c1 c2 c3 c4 c5 c6
       go_wp2
      · go_ret
        refine ⟨Rw.ret_bool ?_,HB2.out⟩
        rw [HE2.out]
        exact (all_false (List.mem_of_getElem? HX.out) hr).symm
      · go_roundw
        case rel => exact ⟨j + 1,hlt,by go_num,⟨HB2.out,all_take_true HX.out HR.out.2 hr⟩,hcell2⟩
        case measure => simp [intOf]; omega
    · have hjs: j = 1 := by omega
      subst hjs
      go_wp2
      go_ret
      refine ⟨Rw.ret_bool ?_,HR.out.1⟩
      have := HR.out.2
      rw [<- HLn.out,List.take_length] at this
      rw [HE2.out,this]
 · have HF: Hid (R = false) := by
    show _ = _
    rw [HE.out]
    exact not_six hG
   clear HI HR HE IH
   have hGn := Rw.dh hG
   clear hG
   go_enter Tryz.func12,Tryz.ntmps12
   go_wp2_with (go_at_call 67; refine (HT.out _).mono ?_; rintro e w1 ⟨rfl,hb1⟩; obtain ⟨d0,d1,d2,d3,d4,d5,d6,e0,e1,e2,hB1⟩ := after2 hb1; clear hb1)
   all_goals first
    | (go_ret; exact ⟨Rw.ret_bool HF.out.symm,hB1⟩)
    | (exfalso; refine hGn.out ⟨?_, ?_, ?_, ?_, ?_, ?_⟩ <;> first | assumption | omega | (simp_all; done))
set_option linter.unusedVariables false in
theorem rrx_none {n: Nat} {xo: ByteArray} {xk xn: Int} {xs xv xc: ByteArray} {xa: Option Addr} {xp: Nat} {l: List XL} {w: World} {N: Int} {R: Bool} (IH: Hid (∀ (x: XL) (w: World),In n w x -> Calls Tryz.prog 12 #[xV x, .int .i64 n] w fun e W => e = .returned (.bool (rightX n x)) /\ Below w.heap.size w W)) (HI: Hid (In (n + 1) w (.mk xo xk xn xs xv xc xa xp l))) (hkl: l.length <= 1353245080300) (hN1: 1 <= N) (hN2: N <= 1001) (hN3: N - 1 = (n: Int)) (hz: decide (N < 1) = false) (HR: Hid (rightX (n + 1) (.mk xo xk xn xs xv xc xa xp l) = R)) (h1: (xo.toList == [118,97,108,117,101]) = false) (h2: (xo.toList == [99,111,108,117,109,110]) = false) (h3: (xo.toList == [110,101,103]) = false) (h4: (xo.toList == [110,111,116]) = false) (h5: (xo.toList == [110,117,108,108]) = false) (hTT: isTwo xo = false) :
 Calls Tryz.prog 12 #[.agg #[.string xo, .int .i64 xk, .int .i64 xn, .string xs, .string xv, .string xc, .slice xa l.length xp], .int .i64 N] w fun e W => e = .returned (.bool R) /\ Below w.heap.size w W := by
 have HT := Rw.dh (fun W => two_walk xo W)
 have hT: isTwo xo = false := hTT
 rw [hT] at HT
 have HE: Hid (R = false) := HR.out.symm.trans (rightX_none h1 h2 h3 h4 h5 hT)
 go_enter Tryz.func12,Tryz.ntmps12
 go_wp2_with (go_at_call 67; refine (HT.out _).mono ?_; rintro e w1 ⟨rfl,hb1⟩; obtain ⟨d0,d1,d2,d3,d4,d5,d6,e0,e1,e2,hB1⟩ := after2 hb1; clear hb1)
 go_ret
 exact ⟨Rw.ret_bool HE.out.symm,hB1⟩
theorem rrx_walk: ∀ (n: Nat),n <= 1000 -> ∀ (x: XL) (w: World),In n w x -> Calls Tryz.prog 12 #[xV x, .int .i64 n] w fun e W => e = .returned (.bool (rightX n x)) /\ Below w.heap.size w W
 | 0,_, .mk xo xk xn xs xv xc xa xp l,w,_ => by
  show Calls Tryz.prog 12 #[.agg #[.string xo, .int .i64 xk, .int .i64 xn, .string xs, .string xv, .string xc, .slice xa l.length xp], .int .i64 0] w _
  go_enter Tryz.func12,Tryz.ntmps12
  go_wp2
  go_ret
  exact ⟨rfl,Rw.below_alloc _ _⟩
 | n + 1,hn, .mk xo xk xn xs xv xc xa xp l,w,hi => by
  have IH := Rw.dh (rrx_walk n (by omega))
  have HI := Rw.dh hi
  have hkl: l.length <= 1353245080300 := hi.1.kids
  clear hi
  obtain ⟨N,hN1,hN2,hN3,hN⟩: ∃ N: Int,1 <= N /\ N <= 1001 /\ N - 1 = (n: Int) /\ ((n + 1: Nat): Int) = N := ⟨_,by omega,by omega,by omega,rfl⟩
  have hz: decide (N < 1) = false := by simp; omega
  show Calls Tryz.prog 12 #[.agg #[.string xo, .int .i64 xk, .int .i64 xn, .string xs, .string xv, .string xc, .slice xa l.length xp], .int .i64 (n + 1: Nat)] w _
  rw [hN]
  clear hN
  have HRi: Hid (∀ W,Calls Tryz.prog 65 #[.agg #[.int .i64 xk, .int .i64 xn, .string xs]] W fun e W' => e = .returned (.bool (rightB xk xn xs)) /\ Below W.heap.size W W') := fun W => rright_walk xk xn xs W
  have HN1 := Rw.dh (fun W => rname_walk xc W HI.out.1.col)
  have HN2 := Rw.dh (fun W => rname_walk xv W HI.out.1.var)
  have B2: Hid (∀ o1 o2,Below w.heap.size w ((w.alloc o1).alloc o2)) := fun o1 o2 => (Rw.below_alloc _ _).alloc (by simp) _
  obtain ⟨R,HR⟩: ∃ R,Hid (rightX (n + 1) (.mk xo xk xn xs xv xc xa xp l) = R) := ⟨_,rfl⟩
  rw [HR.out]
  cases h1: (xo.toList == [118,97,108,117,101])
  · cases h2: (xo.toList == [99,111,108,117,109,110])
    · clear HRi HN1 HN2 B2
      cases h3: (xo.toList == [110,101,103])
      · cases h4: (xo.toList == [110,111,116])
        · cases h5: (xo.toList == [110,117,108,108])
          · cases hTT: isTwo xo
            · exact rrx_none IH HI hkl hN1 hN2 hN3 hz HR h1 h2 h3 h4 h5 hTT
            · exact rrx_two IH HI hkl hN1 hN2 hN3 hz HR h1 h2 h3 h4 h5 hTT
          · exact rrx_null IH HI hkl hN1 hN2 hN3 hz HR h1 h2 h3 h4 h5
        · exact rrx_not IH HI hkl hN1 hN2 hN3 hz HR h1 h2 h3 h4
      · exact rrx_neg IH HI hkl hN1 hN2 hN3 hz HR h1 h2 h3
    · have HE: Hid (R = (decide (l.length = 0) && (xk == 0 && xn == 0 && xs.toList == [] && nameB xc && (xv.toList == [] || nameB xv)))) := HR.out.symm.trans (rightX_column h2)
      have HNc := HN1.out
      have HNv := HN2.out
      clear HN1 HN2
      cases hn1: nameB xc <;> cases hn2: nameB xv
      all_goals
       rw [hn1] at HNc HE
       rw [hn2] at HNv HE
       go_enter Tryz.func12,Tryz.ntmps12
       go_wp2_with (go_at_call 66; first | (with_reducible refine (HNc _).mono ?_; rintro e w1 ⟨rfl,rfl⟩; clear HNc) | (with_reducible refine (HNv _).mono ?_; rintro e w1 ⟨rfl,rfl⟩))
       all_goals
        go_ret
        refine ⟨Rw.ret_bool ?_,B2.out _ _⟩
        rw [HE.out]
        simp [*]
  · have HE: Hid (R = (decide (l.length = 0) && (xv.toList == [] && xc.toList == [] && rightB xk xn xs && decide (0 <= xn)))) := HR.out.symm.trans (rightX_value h1)
    have HRn := Rw.dh (right_neg (k := xk) (n := xn) (s := xs))
    have HRi2 := HRi.out
    cases hr: rightB xk xn xs
    all_goals
     rw [hr] at HRi2 HE HRn
     go_enter Tryz.func12,Tryz.ntmps12
     go_wp2_with (go_at_call 65; refine (HRi2 _).mono ?_; rintro e w1 ⟨rfl,hb1⟩; have d1: w1.cell? ⟨w.heap.size,1,none⟩ = some (.int .i64 xk) := (by rw [hb1.cell (by simp; omega)]; simp [go_sem]); have d2: w1.cell? ⟨w.heap.size,2,none⟩ = some (.int .i64 xn) := (by rw [hb1.cell (by simp; omega)]; simp [go_sem]))
     all_goals try (
      go_ret
      refine ⟨Rw.ret_bool ?_,by first | exact B2.out _ _ | exact dig_below_on (B2.out _ _) hb1⟩
      rw [HE.out]
      first | (simp [*]; done) | (have hnn := HRn.out trivial (by assumption); simp [*]; done))
end Go.Proofs.YteibhbnlcpejpaaGreat
