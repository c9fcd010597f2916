import Derived.Test.YtdaikppppkbfoaaMBN
import Derived.Test.YtdaikppppkbfoaaMBM
set_option maxRecDepth 100000
set_option maxHeartbeats 4000000
namespace Go.Proofs.Ytdaikppppkbfoaa
open Go.RowKit
theorem kidsI_value {s: ByteArray} (h: (s.toList == [118,97,108,117,101]) = true): kidsI s = 0 := by
 unfold kidsI; rw [bl_eq h]; decide
theorem kidsI_column {s: ByteArray} (h: (s.toList == [99,111,108,117,109,110]) = true): kidsI s = 0 := by
 unfold kidsI; rw [bl_eq h]; decide
theorem rightX_value {n: Nat} {xo: ByteArray} {xk xn: Int} {xs xv xc: ByteArray} {xa: Option Addr} {xp: Nat} {l: List XL} (h: (xo.toList == [118,97,108,117,101]) = true): rightX (n + 1) (.mk xo xk xn xs xv xc xa xp l) = (decide (l.length = 0) && (xv.toList == [] && xc.toList == [] && rightB xk xn xs && decide (0 <= xn))) := by
 show (decide (((l.length: Nat): Int) = kidsI xo) && (if (xo.toList == oVALUE) = true then xv.toList == [] && xc.toList == [] && rightB xk xn xs && decide (0 <= xn) else if (xo.toList == oCOLUMN) = true then (xk == 0 && xn == 0 && xs.toList == []) && nameB xc && (xv.toList == [] || nameB xv) else (xk == 0 && xn == 0 && xs.toList == []) && xv.toList == [] && xc.toList == [] && l.all (rightX n))) = _
 rw [kidsI_value h,if_pos (show (xo.toList == oVALUE) = true from h)]
 congr 1
 rw [Bool.eq_iff_iff]; simp
theorem rightX_column {n: Nat} {xo: ByteArray} {xk xn: Int} {xs xv xc: ByteArray} {xa: Option Addr} {xp: Nat} {l: List XL} (h: (xo.toList == [99,111,108,117,109,110]) = true): rightX (n + 1) (.mk xo xk xn xs xv xc xa xp l) = (decide (l.length = 0) && (xk == 0 && xn == 0 && xs.toList == [] && nameB xc && (xv.toList == [] || nameB xv))) := by
 show (decide (((l.length: Nat): Int) = kidsI xo) && (if (xo.toList == oVALUE) = true then xv.toList == [] && xc.toList == [] && rightB xk xn xs && decide (0 <= xn) else if (xo.toList == oCOLUMN) = true then (xk == 0 && xn == 0 && xs.toList == []) && nameB xc && (xv.toList == [] || nameB xv) else (xk == 0 && xn == 0 && xs.toList == []) && xv.toList == [] && xc.toList == [] && l.all (rightX n))) = _
 rw [kidsI_column h,if_neg (show ¬ (xo.toList == oVALUE) = true by rw [bl_eq h]; decide),if_pos (show (xo.toList == oCOLUMN) = true from h)]
 congr 1
 rw [Bool.eq_iff_iff]; simp
theorem right_neg {k n: Int} {s: ByteArray}: rightB k n s = true -> ¬ k = 2 -> 0 <= n := fun h hk => by
 rcases right_cases h with ⟨rfl,rfl,rfl⟩ | ⟨rfl,rfl | rfl,rfl⟩ | ⟨rfl,rfl⟩ | ⟨rfl,rfl,hs⟩
 · omega
 · omega
 · omega
 · exact absurd rfl hk
 · omega
theorem rightX_other {n: Nat} {xo: ByteArray} {xk xn: Int} {xs xv xc: ByteArray} {xa: Option Addr} {xp: Nat} {l: List XL} {m: Nat} (h1: (xo.toList == [118,97,108,117,101]) = false) (h2: (xo.toList == [99,111,108,117,109,110]) = false) (hk: kidsI xo = m): rightX (n + 1) (.mk xo xk xn xs xv xc xa xp l) = (decide (l.length = m) && (xk == 0 && xn == 0 && xs.toList == [] && xv.toList == [] && xc.toList == [] && l.all (rightX n))) := by
 show (decide (((l.length: Nat): Int) = kidsI xo) && (if (xo.toList == oVALUE) = true then xv.toList == [] && xc.toList == [] && rightB xk xn xs && decide (0 <= xn) else if (xo.toList == oCOLUMN) = true then (xk == 0 && xn == 0 && xs.toList == []) && nameB xc && (xv.toList == [] || nameB xv) else (xk == 0 && xn == 0 && xs.toList == []) && xv.toList == [] && xc.toList == [] && l.all (rightX n))) = _
 rw [hk,if_neg (show ¬ (xo.toList == oVALUE) = true from fun e => by rw [show (xo.toList == oVALUE) = false from h1] at e; cases e),if_neg (show ¬ (xo.toList == oCOLUMN) = true from fun e => by rw [show (xo.toList == oCOLUMN) = false from h2] at e; cases e)]
 congr 1
 rw [Bool.eq_iff_iff]; simp; omega
theorem kidsI_two {s: ByteArray} (h1: (s.toList == [118,97,108,117,101]) = false) (h2: (s.toList == [99,111,108,117,109,110]) = false) (h3: (s.toList == [110,101,103]) = false) (h4: (s.toList == [110,111,116]) = false) (h5: (s.toList == [110,117,108,108]) = false) (hT: isTwo s = true): kidsI s = (2: Nat) := by
 unfold isTwo at hT
 simp only [kidsI,oVALUE,oCOLUMN,ops1,oNEG,oNOT,oNULL,List.contains_cons,List.contains_nil,h1,h2,h3,h4,h5,hT,Bool.or_false,Bool.false_eq_true,if_false,if_true]
 rfl
theorem rightX_none {n: Nat} {xo: ByteArray} {xk xn: Int} {xs xv xc: ByteArray} {xa: Option Addr} {xp: Nat} {l: List XL} (h1: (xo.toList == [118,97,108,117,101]) = false) (h2: (xo.toList == [99,111,108,117,109,110]) = false) (h3: (xo.toList == [110,101,103]) = false) (h4: (xo.toList == [110,111,116]) = false) (h5: (xo.toList == [110,117,108,108]) = false) (hT: isTwo xo = false): rightX (n + 1) (.mk xo xk xn xs xv xc xa xp l) = false := by
 have hk: kidsI xo = -1 := by
  unfold isTwo at hT
  simp only [kidsI,oVALUE,oCOLUMN,ops1,oNEG,oNOT,oNULL,List.contains_cons,List.contains_nil,h1,h2,h3,h4,h5,hT,Bool.or_false,Bool.false_eq_true,if_false]
 show (decide (((l.length: Nat): Int) = kidsI xo) && (if (xo.toList == oVALUE) = true then xv.toList == [] && xc.toList == [] && rightB xk xn xs && decide (0 <= xn) else if (xo.toList == oCOLUMN) = true then (xk == 0 && xn == 0 && xs.toList == []) && nameB xc && (xv.toList == [] || nameB xv) else (xk == 0 && xn == 0 && xs.toList == []) && xv.toList == [] && xc.toList == [] && l.all (rightX n))) = _
 rw [hk,decide_eq_false (by omega),Bool.false_and]
theorem all_false {l: List XL} {f: XL -> Bool} {x: XL} (h: x ∈ l) (hf: f x = false): l.all f = false := by
 rw [List.all_eq_false]; exact ⟨x,h,by simp [hf]⟩
theorem all_take_true {l: List XL} {f: XL -> Bool} {j: Nat} {x: XL} (hx: l[j]? = some x) (h: (l.take j).all f = true) (hf: f x = true): (l.take (j + 1)).all f = true := by
 obtain ⟨hjl,rfl⟩ := List.getElem?_eq_some_iff.1 hx
 rw [List.take_succ_eq_append_getElem hjl,List.all_append,h]
 simp [hf]
theorem not_six {m k: Nat} {xk xn: Int} {a b c: List UInt8} {r: Bool} (h: ¬ (m = k /\ xk = 0 /\ xn = 0 /\ a = [] /\ b = [] /\ c = [])): (decide (m = k) && (xk == 0 && xn == 0 && a == [] && b == [] && c == [] && r)) = false := by
 rw [Bool.eq_false_iff]
 intro e
 simp only [Bool.and_eq_true,decide_eq_true_eq,beq_iff_eq] at e
 exact h ⟨e.1,e.2.1.1.1.1.1,e.2.1.1.1.1.2,e.2.1.1.1.2,e.2.1.1.2,e.2.1.2⟩
theorem after2 {w w1: World} {c0 c1 c2 c3 c4 c5 c6 z0 z1 z2: Value} {t t2: TypeId} (hb: Below ((w.alloc (.cells #[c0,c1,c2,c3,c4,c5,c6] t)).alloc (.cells #[z0,z1,z2] t2)).heap.size ((w.alloc (.cells #[c0,c1,c2,c3,c4,c5,c6] t)).alloc (.cells #[z0,z1,z2] t2)) w1) :
 w1.cell? ⟨w.heap.size,0,none⟩ = some c0 /\ w1.cell? ⟨w.heap.size,1,none⟩ = some c1 /\ w1.cell? ⟨w.heap.size,2,none⟩ = some c2 /\ w1.cell? ⟨w.heap.size,3,none⟩ = some c3 /\ w1.cell? ⟨w.heap.size,4,none⟩ = some c4 /\ w1.cell? ⟨w.heap.size,5,none⟩ = some c5 /\ w1.cell? ⟨w.heap.size,6,none⟩ = some c6 /\
 w1.cell? ⟨w.heap.size + 1,0,none⟩ = some z0 /\ w1.cell? ⟨w.heap.size + 1,1,none⟩ = some z1 /\ w1.cell? ⟨w.heap.size + 1,2,none⟩ = some z2 /\ Below w.heap.size w w1 := by
 have hA: ∀ o,w1.cell? ⟨w.heap.size,o,none⟩ = ((w.alloc (.cells #[c0,c1,c2,c3,c4,c5,c6] t)).alloc (.cells #[z0,z1,z2] t2)).cell? ⟨w.heap.size,o,none⟩ := fun o => hb.cell (by simp; omega)
 have hB: ∀ o,w1.cell? ⟨w.heap.size + 1,o,none⟩ = ((w.alloc (.cells #[c0,c1,c2,c3,c4,c5,c6] t)).alloc (.cells #[z0,z1,z2] t2)).cell? ⟨w.heap.size + 1,o,none⟩ := fun o => hb.cell (by simp)
 refine ⟨?_, ?_, ?_, ?_, ?_, ?_, ?_, ?_, ?_, ?_,dig_below_on ((Rw.below_alloc _ _).alloc (by simp) _) hb⟩
 all_goals first | (rw [hA]; simp [go_sem]; done) | (rw [hB]; simp [go_sem]; done)
set_option linter.unusedVariables false in
theorem rrx_neg {n: Nat} {xo: ByteArray} {xk xn: Int} {xs xv xc: ByteArray} {xa: Option Addr} {xp: Nat} {l: List XL} {w: World} {N: Int} {R: Bool} (IH: Hid (∀ (x: XL) (w: World),In n w x -> Calls Try.prog 11 #[xV x, .int .i64 n] w fun e W => e = .returned (.bool (rightX n x)) /\ Below w.heap.size w W)) (HI: Hid (In (n + 1) w (.mk xo xk xn xs xv xc xa xp l))) (hkl: l.length <= 1353245080300) (hN1: 1 <= N) (hN2: N <= 1001) (hN3: N - 1 = (n: Int)) (hz: decide (N < 1) = false) (HR: Hid (rightX (n + 1) (.mk xo xk xn xs xv xc xa xp l) = R)) (h1: (xo.toList == [118,97,108,117,101]) = false) (h2: (xo.toList == [99,111,108,117,109,110]) = false) (h3: (xo.toList == [110,101,103]) = true) :
 Calls Try.prog 11 #[.agg #[.string xo, .int .i64 xk, .int .i64 xn, .string xs, .string xv, .string xc, .slice xa l.length xp], .int .i64 N] w fun e W => e = .returned (.bool R) /\ Below w.heap.size w W := by
 have HT := Rw.dh (fun W => two_walk xo W)
 have hT: isTwo xo = false := by unfold isTwo; rw [bl_eq h3]; decide
 rw [hT] at HT
 have HE: Hid (R = (decide (l.length = 1) && (xk == 0 && xn == 0 && xs.toList == [] && xv.toList == [] && xc.toList == [] && l.all (rightX n)))) := HR.out.symm.trans (rightX_other h1 h2 (by unfold kidsI; rw [bl_eq h3]; decide))
 by_cases hG: l.length = 1 /\ xk = 0 /\ xn = 0 /\ xs.toList = [] /\ xv.toList = [] /\ xc.toList = []
 · have HE2: Hid (R = l.all (rightX n)) := by show _ = _; rw [HE.out]; obtain ⟨g1,g2,g3,g4,g5,g6⟩ := hG; simp [g1,g2,g3,g4,g5,g6]
   have HS: Hid (Rw.SlG xC 7 w xa l) := HI.out.2.1
   have HK: Hid (∀ k ∈ l,In n w k) := HI.out.2.2
   obtain ⟨hlen,rfl,rfl,hxs,hxv,hxc⟩ := hG
   have HLn := Rw.dh hlen
   clear HI HR HE
   go_enter Try.func11,Try.ntmps11
   go_wp2_with (go_at_call 39; refine (HT.out _).mono ?_; rintro e w1 ⟨rfl,hb1⟩; obtain ⟨d0,d1,d2,d3,d4,d5,d6,e0,e1,e2,hB1⟩ := after2 hb1; clear hb1)
   go_loopw [7] (fun i wr => ∃ j: Nat,j <= 1 /\ i = .int .i64 (j: Int) /\ Hid (Below w.heap.size w wr /\ (l.take j).all (rightX n) = true) /\ wr.cell? ⟨w.heap.size,6,none⟩ = some (.slice xa 1 xp)) (fun i _ => 1 - (intOf i).toNat)
   case atStart => exact ⟨0,Nat.zero_le _,rfl,⟨hB1,rfl⟩,d6⟩
   case round =>
    obtain ⟨j,hj,rfl,HR,hcell⟩ := hrel
    have hsl: w.heap.size < wr.heap.size := World.block_lt_of_cell? _ _ hcell
    by_cases hlt: j < 1
    · obtain ⟨b,o,k,rfl,hb,hx,hc⟩ := (HS.out.below HR.out.1).at (j := j) (by rw [HLn.out]; exact hlt)
      have HX := Rw.dh hx
      have HC := Rw.dh (fun W (hW: Below wr.heap.size wr W) => IH.out k W ((HK.out k (List.mem_of_getElem? hx)).on (dig_below_on HR.out.1 hW)))
      have c0: wr.cell? ⟨b,o + j * 7,none⟩ = some (.string k.op) := hc 0 _ rfl
      have c1: wr.cell? ⟨b,o + j * 7 + 1,none⟩ = some (.int .i64 k.vk) := hc 1 _ rfl
      have c2: wr.cell? ⟨b,o + j * 7 + 2,none⟩ = some (.int .i64 k.vn) := hc 2 _ rfl
      have c3: wr.cell? ⟨b,o + j * 7 + 3,none⟩ = some (.string k.vs) := hc 3 _ rfl
      have c4: wr.cell? ⟨b,o + j * 7 + 4,none⟩ = some (.string k.var) := hc 4 _ rfl
      have c5: wr.cell? ⟨b,o + j * 7 + 5,none⟩ = some (.string k.col) := hc 5 _ rfl
      have c6: wr.cell? ⟨b,o + j * 7 + 6,none⟩ = some (.slice k.a k.kids.length k.c) := hc 6 _ rfl
      clear hc hx
      cases hr: rightX n k
      all_goals
       rw [hr] at HC
       go_wp2_with fail
       refine (HC.out _ (by first | exact Below.refl _ _ | exact Rw.below_alloc _ _)).mono ?_
       rintro e w2 ⟨rfl,hb2⟩
       have HB2 := Rw.dh (dig_below_on HR.out.1 hb2)
       have hcell2: w2.cell? ⟨w.heap.size,6,none⟩ = some (.slice (some ⟨b,o,none⟩) 1 xp) := by rw [hb2.cell hsl]; exact hcell
       clear hb2 HC c0 c1 c2 c3 c4 c5 c6
       go_wp2
      · go_ret
        refine ⟨Rw.ret_bool ?_,HB2.out⟩
        rw [HE2.out]
        exact (all_false (List.mem_of_getElem? HX.out) hr).symm
      · go_roundw
        case rel => exact ⟨j + 1,hlt,by go_num,⟨HB2.out,all_take_true HX.out HR.out.2 hr⟩,hcell2⟩
        case measure => simp [intOf]; omega
    · have hjs: j = 1 := by omega
      subst hjs
      go_wp2
      go_ret
      refine ⟨Rw.ret_bool ?_,HR.out.1⟩
      have := HR.out.2
      rw [<- HLn.out,List.take_length] at this
      rw [HE2.out,this]
 · have HF: Hid (R = false) := by
    show _ = _
    rw [HE.out]
    exact not_six hG
   clear HI HR HE IH
   have hGn := Rw.dh hG
   clear hG
   go_enter Try.func11,Try.ntmps11
   go_wp2_with (go_at_call 39; refine (HT.out _).mono ?_; rintro e w1 ⟨rfl,hb1⟩; obtain ⟨d0,d1,d2,d3,d4,d5,d6,e0,e1,e2,hB1⟩ := after2 hb1; clear hb1)
   all_goals first
    | (go_ret; exact ⟨Rw.ret_bool HF.out.symm,hB1⟩)
    | (exfalso; refine hGn.out ⟨?_, ?_, ?_, ?_, ?_, ?_⟩ <;> first | assumption | omega | (simp_all; done))
set_option linter.unusedVariables false in
theorem rrx_two {n: Nat} {xo: ByteArray} {xk xn: Int} {xs xv xc: ByteArray} {xa: Option Addr} {xp: Nat} {l: List XL} {w: World} {N: Int} {R: Bool} (IH: Hid (∀ (x: XL) (w: World),In n w x -> Calls Try.prog 11 #[xV x, .int .i64 n] w fun e W => e = .returned (.bool (rightX n x)) /\ Below w.heap.size w W)) (HI: Hid (In (n + 1) w (.mk xo xk xn xs xv xc xa xp l))) (hkl: l.length <= 1353245080300) (hN1: 1 <= N) (hN2: N <= 1001) (hN3: N - 1 = (n: Int)) (hz: decide (N < 1) = false) (HR: Hid (rightX (n + 1) (.mk xo xk xn xs xv xc xa xp l) = R)) (h1: (xo.toList == [118,97,108,117,101]) = false) (h2: (xo.toList == [99,111,108,117,109,110]) = false) (h3: (xo.toList == [110,101,103]) = false) (h4: (xo.toList == [110,111,116]) = false) (h5: (xo.toList == [110,117,108,108]) = false) (hTT: isTwo xo = true) :
 Calls Try.prog 11 #[.agg #[.string xo, .int .i64 xk, .int .i64 xn, .string xs, .string xv, .string xc, .slice xa l.length xp], .int .i64 N] w fun e W => e = .returned (.bool R) /\ Below w.heap.size w W := by
 have HT := Rw.dh (fun W => two_walk xo W)
 have hT: isTwo xo = true := hTT
 rw [hT] at HT
 have HE: Hid (R = (decide (l.length = 2) && (xk == 0 && xn == 0 && xs.toList == [] && xv.toList == [] && xc.toList == [] && l.all (rightX n)))) := HR.out.symm.trans (rightX_other h1 h2 (kidsI_two h1 h2 h3 h4 h5 hTT))
 by_cases hG: l.length = 2 /\ xk = 0 /\ xn = 0 /\ xs.toList = [] /\ xv.toList = [] /\ xc.toList = []
 · have HE2: Hid (R = l.all (rightX n)) := by show _ = _; rw [HE.out]; obtain ⟨g1,g2,g3,g4,g5,g6⟩ := hG; simp [g1,g2,g3,g4,g5,g6]
   have HS: Hid (Rw.SlG xC 7 w xa l) := HI.out.2.1
   have HK: Hid (∀ k ∈ l,In n w k) := HI.out.2.2
   obtain ⟨hlen,rfl,rfl,hxs,hxv,hxc⟩ := hG
   have HLn := Rw.dh hlen
   clear HI HR HE
   go_enter Try.func11,Try.ntmps11
   go_wp2_with (go_at_call 39; refine (HT.out _).mono ?_; rintro e w1 ⟨rfl,hb1⟩; obtain ⟨d0,d1,d2,d3,d4,d5,d6,e0,e1,e2,hB1⟩ := after2 hb1; clear hb1)
   go_loopw [7] (fun i wr => ∃ j: Nat,j <= 2 /\ i = .int .i64 (j: Int) /\ Hid (Below w.heap.size w wr /\ (l.take j).all (rightX n) = true) /\ wr.cell? ⟨w.heap.size,6,none⟩ = some (.slice xa 2 xp)) (fun i _ => 2 - (intOf i).toNat)
   case atStart => exact ⟨0,Nat.zero_le _,rfl,⟨hB1,rfl⟩,d6⟩
   case round =>
    obtain ⟨j,hj,rfl,HR,hcell⟩ := hrel
    have hsl: w.heap.size < wr.heap.size := World.block_lt_of_cell? _ _ hcell
    by_cases hlt: j < 2
    · obtain ⟨b,o,k,rfl,hb,hx,hc⟩ := (HS.out.below HR.out.1).at (j := j) (by rw [HLn.out]; exact hlt)
      have HX := Rw.dh hx
      have HC := Rw.dh (fun W (hW: Below wr.heap.size wr W) => IH.out k W ((HK.out k (List.mem_of_getElem? hx)).on (dig_below_on HR.out.1 hW)))
      have c0: wr.cell? ⟨b,o + j * 7,none⟩ = some (.string k.op) := hc 0 _ rfl
      have c1: wr.cell? ⟨b,o + j * 7 + 1,none⟩ = some (.int .i64 k.vk) := hc 1 _ rfl
      have c2: wr.cell? ⟨b,o + j * 7 + 2,none⟩ = some (.int .i64 k.vn) := hc 2 _ rfl
      have c3: wr.cell? ⟨b,o + j * 7 + 3,none⟩ = some (.string k.vs) := hc 3 _ rfl
      have c4: wr.cell? ⟨b,o + j * 7 + 4,none⟩ = some (.string k.var) := hc 4 _ rfl
      have c5: wr.cell? ⟨b,o + j * 7 + 5,none⟩ = some (.string k.col) := hc 5 _ rfl
      have c6: wr.cell? ⟨b,o + j * 7 + 6,none⟩ = some (.slice k.a k.kids.length k.c) := hc 6 _ rfl
      clear hc hx
      cases hr: rightX n k
      all_goals
       rw [hr] at HC
       go_wp2_with fail
       refine (HC.out _ (by first | exact Below.refl _ _ | exact Rw.below_alloc _ _)).mono ?_
       rintro e w2 ⟨rfl,hb2⟩
       have HB2 := Rw.dh (dig_below_on HR.out.1 hb2)
       have hcell2: w2.cell? ⟨w.heap.size,6,none⟩ = some (.slice (some ⟨b,o,none⟩) 2 xp) := by rw [hb2.cell hsl]; exact hcell
       clear hb2 HC c0 c1 c2 c3 c4 c5 c6
       go_wp2
      · go_ret
        refine ⟨Rw.ret_bool ?_,HB2.out⟩
        rw [HE2.out]
        exact (all_false (List.mem_of_getElem? HX.out) hr).symm
      · go_roundw
        case rel => exact ⟨j + 1,hlt,by go_num,⟨HB2.out,all_take_true HX.out HR.out.2 hr⟩,hcell2⟩
        case measure => simp [intOf]; omega
    · have hjs: j = 2 := by omega
      subst hjs
      go_wp2
      go_ret
      refine ⟨Rw.ret_bool ?_,HR.out.1⟩
      have := HR.out.2
      rw [<- HLn.out,List.take_length] at this
      rw [HE2.out,this]
 · have HF: Hid (R = false) := by
    show _ = _
    rw [HE.out]
    exact not_six hG
   clear HI HR HE IH
   have hGn := Rw.dh hG
   clear hG
   go_enter Try.func11,Try.ntmps11
   go_wp2_with (go_at_call 39; refine (HT.out _).mono ?_; rintro e w1 ⟨rfl,hb1⟩; obtain ⟨d0,d1,d2,d3,d4,d5,d6,e0,e1,e2,hB1⟩ := after2 hb1; clear hb1)
   all_goals first
    | (go_ret; exact ⟨Rw.ret_bool HF.out.symm,hB1⟩)
    | (exfalso; refine hGn.out ⟨?_, ?_, ?_, ?_, ?_, ?_⟩ <;> first | assumption | omega | (simp_all; done))
end Go.Proofs.Ytdaikppppkbfoaa
