import Derived.Test.YteibhbnlcpejpaaGreatMAX
set_option maxRecDepth 100000
set_option maxHeartbeats 4000000
namespace Go.Proofs.YteibhbnlcpejpaaGreat
open Go.RowKit
theorem any_take_false {α: Type} {l: List α} {f: α -> Bool} {j: Nat} {x: α} (hx: l[j]? = some x) (h: (l.take j).any f = false) (hf: f x = false): (l.take (j + 1)).any f = false := by
 obtain ⟨hjl,rfl⟩ := List.getElem?_eq_some_iff.1 hx
 rw [List.take_succ_eq_append_getElem hjl,List.any_append,h]
 simp [hf]
theorem deep_walk: ∀ (n: Nat),n <= 1000 -> ∀ (x: XL) (w: World),In n w x -> Calls Tryz.prog 105 #[xV x, .int .i64 n] w fun e w' => e = .returned (.bool (deepB n x)) /\ Below w.heap.size w w'
 | 0,_,x,w,_ => by
  unfold xV
  go_enter Tryz.func105,Tryz.ntmps105
  go_wp2
  go_ret
  exact ⟨rfl,by first | exact Rw.below_alloc _ _ | exact Below.refl _ _⟩
 | n + 1,hn, .mk xo xk xn xs xv xc xa xp l,w,hi => by
  have IH := Rw.dh (deep_walk n (by omega))
  have HS: Hid (Rw.SlG xC 7 w xa l) := hi.2.1
  have HK: Hid (∀ k ∈ l,In n w k) := hi.2.2
  have hkl: l.length <= 1353245080300 := hi.1.kids
  have HD: Hid (deepB (n + 1) (.mk xo xk xn xs xv xc xa xp l) = l.any (deepB n)) := rfl
  clear hi
  obtain ⟨N,hN1,hN2,hN3,hN⟩: ∃ N: Int,1 <= N /\ N <= 1001 /\ N - 1 = (n: Int) /\ ((n + 1: Nat): Int) = N := ⟨_,by omega,by omega,by omega,rfl⟩
  have hz: (N == 0) = false := beq_eq_false_iff_ne.2 (by omega)
  show Calls Tryz.prog 105 #[.agg #[.string xo, .int .i64 xk, .int .i64 xn, .string xs, .string xv, .string xc, .slice xa l.length xp], .int .i64 (n + 1: Nat)] w _
  rw [hN]
  clear hN
  go_enter Tryz.func105,Tryz.ntmps105
  go_wp2_with fail
  go_loopw [12] (fun i wr => ∃ j: Nat,j <= l.length /\ i = .int .i64 (j: Int) /\ Hid (Below w.heap.size w wr /\ (l.take j).any (deepB n) = false)) (fun i _ => l.length - (intOf i).toNat)
  case atStart => exact ⟨0,Nat.zero_le _,rfl,Rw.below_alloc _ _,rfl⟩
  case round =>
   obtain ⟨j,hj,rfl,HR⟩ := hrel
   by_cases hlt: j < l.length
   · obtain ⟨b,o,k,rfl,hb,hx,hc⟩ := (HS.out.below HR.out.1).at hlt
     have HX := Rw.dh hx
     have HKk := Rw.dh ((HK.out k (List.mem_of_getElem? hx)).on HR.out.1)
     have c0: wr.cell? ⟨b,o + j * 7,none⟩ = some (.string k.op) := hc 0 _ rfl
     have c1: wr.cell? ⟨b,o + j * 7 + 1,none⟩ = some (.int .i64 k.vk) := hc 1 _ rfl
     have c2: wr.cell? ⟨b,o + j * 7 + 2,none⟩ = some (.int .i64 k.vn) := hc 2 _ rfl
     have c3: wr.cell? ⟨b,o + j * 7 + 3,none⟩ = some (.string k.vs) := hc 3 _ rfl
     have c4: wr.cell? ⟨b,o + j * 7 + 4,none⟩ = some (.string k.var) := hc 4 _ rfl
     have c5: wr.cell? ⟨b,o + j * 7 + 5,none⟩ = some (.string k.col) := hc 5 _ rfl
     have c6: wr.cell? ⟨b,o + j * 7 + 6,none⟩ = some (.slice k.a k.kids.length k.c) := hc 6 _ rfl
     clear hc hx
     go_wp2_with fail
     refine (IH.out k _ (HKk.out.on (Rw.below_alloc _ _))).mono ?_
     rintro e w1 ⟨rfl,hb1⟩
     have HB1 := Rw.dh (dig_below_on HR.out.1 (dig_below_on (Rw.below_alloc wr _) hb1))
     clear hb1
     cases hd: deepB n k
     · go_wp2
       go_roundw
       case rel => exact ⟨j + 1,hlt,by go_num,HB1.out,any_take_false HX.out HR.out.2 hd⟩
       case measure => simp [intOf]; omega
     · go_wp2
       go_ret
       refine ⟨Rw.ret_bool ?_,HB1.out⟩
       symm
       rw [HD.out,List.any_eq_true]
       exact ⟨k,List.mem_of_getElem? HX.out,hd⟩
   · have hjs: j = l.length := by omega
     subst hjs
     go_wp2
     go_ret
     refine ⟨Rw.ret_bool ?_,HR.out.1⟩
     have := HR.out.2
     rw [List.take_length] at this
     rw [HD.out,this]
theorem bl_eq {s: ByteArray} {l: List UInt8} (h: (s.toList == l) = true): s.toList = l := eq_of_beq h
theorem kids_walk (s: ByteArray) (w: World): Calls Tryz.prog 143 #[.string s] w fun e w' => e = .returned (.int .i64 (kidsI s)) /\ w' = w := by
 cases h0: (s.toList == [118,97,108,117,101])
 case true =>
  have HE: Hid (kidsI s = 0) := by show _ = _; have e := bl_eq h0; unfold kidsI; rw [e]; decide
  go_enter Tryz.func143,Tryz.ntmps143
  go_wp2
  go_ret
  exact ⟨Rw.ret_int HE.out.symm,rfl⟩
 cases h1: (s.toList == [99,111,108,117,109,110])
 case true =>
  have HE: Hid (kidsI s = 0) := by show _ = _; have e := bl_eq h1; unfold kidsI; rw [e]; decide
  go_enter Tryz.func143,Tryz.ntmps143
  go_wp2
  go_ret
  exact ⟨Rw.ret_int HE.out.symm,rfl⟩
 cases h2: (s.toList == [110,101,103])
 case true =>
  have HE: Hid (kidsI s = 1) := by show _ = _; have e := bl_eq h2; unfold kidsI; rw [e]; decide
  go_enter Tryz.func143,Tryz.ntmps143
  go_wp2
  go_ret
  exact ⟨Rw.ret_int HE.out.symm,rfl⟩
 cases h3: (s.toList == [110,111,116])
 case true =>
  have HE: Hid (kidsI s = 1) := by show _ = _; have e := bl_eq h3; unfold kidsI; rw [e]; decide
  go_enter Tryz.func143,Tryz.ntmps143
  go_wp2
  go_ret
  exact ⟨Rw.ret_int HE.out.symm,rfl⟩
 cases h4: (s.toList == [110,117,108,108])
 case true =>
  have HE: Hid (kidsI s = 1) := by show _ = _; have e := bl_eq h4; unfold kidsI; rw [e]; decide
  go_enter Tryz.func143,Tryz.ntmps143
  go_wp2
  go_ret
  exact ⟨Rw.ret_int HE.out.symm,rfl⟩
 cases h5: (s.toList == [43])
 case true =>
  have HE: Hid (kidsI s = 2) := by show _ = _; have e := bl_eq h5; unfold kidsI; rw [e]; decide
  go_enter Tryz.func143,Tryz.ntmps143
  go_wp2
  go_ret
  exact ⟨Rw.ret_int HE.out.symm,rfl⟩
 cases h6: (s.toList == [45])
 case true =>
  have HE: Hid (kidsI s = 2) := by show _ = _; have e := bl_eq h6; unfold kidsI; rw [e]; decide
  go_enter Tryz.func143,Tryz.ntmps143
  go_wp2
  go_ret
  exact ⟨Rw.ret_int HE.out.symm,rfl⟩
 cases h7: (s.toList == [42])
 case true =>
  have HE: Hid (kidsI s = 2) := by show _ = _; have e := bl_eq h7; unfold kidsI; rw [e]; decide
  go_enter Tryz.func143,Tryz.ntmps143
  go_wp2
  go_ret
  exact ⟨Rw.ret_int HE.out.symm,rfl⟩
 cases h8: (s.toList == [61])
 case true =>
  have HE: Hid (kidsI s = 2) := by show _ = _; have e := bl_eq h8; unfold kidsI; rw [e]; decide
  go_enter Tryz.func143,Tryz.ntmps143
  go_wp2
  go_ret
  exact ⟨Rw.ret_int HE.out.symm,rfl⟩
 cases h9: (s.toList == [60,62])
 case true =>
  have HE: Hid (kidsI s = 2) := by show _ = _; have e := bl_eq h9; unfold kidsI; rw [e]; decide
  go_enter Tryz.func143,Tryz.ntmps143
  go_wp2
  go_ret
  exact ⟨Rw.ret_int HE.out.symm,rfl⟩
 cases h10: (s.toList == [60])
 case true =>
  have HE: Hid (kidsI s = 2) := by show _ = _; have e := bl_eq h10; unfold kidsI; rw [e]; decide
  go_enter Tryz.func143,Tryz.ntmps143
  go_wp2
  go_ret
  exact ⟨Rw.ret_int HE.out.symm,rfl⟩
 cases h11: (s.toList == [60,61])
 case true =>
  have HE: Hid (kidsI s = 2) := by show _ = _; have e := bl_eq h11; unfold kidsI; rw [e]; decide
  go_enter Tryz.func143,Tryz.ntmps143
  go_wp2
  go_ret
  exact ⟨Rw.ret_int HE.out.symm,rfl⟩
 cases h12: (s.toList == [62])
 case true =>
  have HE: Hid (kidsI s = 2) := by show _ = _; have e := bl_eq h12; unfold kidsI; rw [e]; decide
  go_enter Tryz.func143,Tryz.ntmps143
  go_wp2
  go_ret
  exact ⟨Rw.ret_int HE.out.symm,rfl⟩
 cases h13: (s.toList == [62,61])
 case true =>
  have HE: Hid (kidsI s = 2) := by show _ = _; have e := bl_eq h13; unfold kidsI; rw [e]; decide
  go_enter Tryz.func143,Tryz.ntmps143
  go_wp2
  go_ret
  exact ⟨Rw.ret_int HE.out.symm,rfl⟩
 cases h14: (s.toList == [97,110,100])
 case true =>
  have HE: Hid (kidsI s = 2) := by show _ = _; have e := bl_eq h14; unfold kidsI; rw [e]; decide
  go_enter Tryz.func143,Tryz.ntmps143
  go_wp2
  go_ret
  exact ⟨Rw.ret_int HE.out.symm,rfl⟩
 cases h15: (s.toList == [111,114])
 case true =>
  have HE: Hid (kidsI s = 2) := by show _ = _; have e := bl_eq h15; unfold kidsI; rw [e]; decide
  go_enter Tryz.func143,Tryz.ntmps143
  go_wp2
  go_ret
  exact ⟨Rw.ret_int HE.out.symm,rfl⟩
 have HE: Hid (kidsI s = -1) := by
  show _ = _
  simp only [kidsI,oVALUE,oCOLUMN,ops1,ops2,oNEG,oNOT,oNULL,List.contains_cons,List.contains_nil,h0,h1,h2,h3,h4,h5,h6,h7,h8,h9,h10,h11,h12,h13,h14,h15,Bool.or_false,Bool.false_eq_true,if_false]
 go_enter Tryz.func143,Tryz.ntmps143
 go_wp2
 go_ret
 exact ⟨Rw.ret_int HE.out.symm,rfl⟩
def isTwo (s: ByteArray): Bool := ops2.contains s.toList
theorem beqc (a b: List UInt8): (a == b) = (b == a) := by
 rw [Bool.eq_iff_iff,beq_iff_eq,beq_iff_eq]; exact eq_comm
theorem two_walk (s: ByteArray) (w: World): Calls Tryz.prog 67 #[.string s] w fun e w' => e = .returned (.bool (isTwo s)) /\ Below w.heap.size w w' := by
 have HT: Hid (∀ j: Nat,∀ c,ops2[j]? = some c -> (c == s.toList) = true -> isTwo s = true) := fun j c h e => by
  unfold isTwo
  rw [List.contains_iff_mem, <- eq_of_beq e]; exact List.mem_of_getElem? h
 have HF: Hid (∀ j: Nat,∀ c,ops2[j]? = some c -> (ops2.take j).contains s.toList = false -> (c == s.toList) = false -> (ops2.take (j + 1)).contains s.toList = false) := fun j c h h1 h2 => by
  obtain ⟨hj,rfl⟩ := List.getElem?_eq_some_iff.1 h
  rw [List.take_succ_eq_append_getElem hj]
  rw [beqc] at h2
  rw [List.contains_eq_any_beq] at h1 ⊢
  rw [List.any_append,h1]
  simp [h2]
 go_enter Tryz.func67,Tryz.ntmps67
 go_wp2_with fail
 go_loop [4] (fun i => ∃ j: Nat,j <= 11 /\ i = .int .i64 (j: Int) /\ Hid ((ops2.take j).contains s.toList = false)) (fun i => 11 - (intOf i).toNat)
 case atStart => exact ⟨0,by omega,rfl,rfl⟩
 case round =>
  obtain ⟨j,hj,rfl,HR⟩ := hrel
  have hcs: j = 0 \/ j = 1 \/ j = 2 \/ j = 3 \/ j = 4 \/ j = 5 \/ j = 6 \/ j = 7 \/ j = 8 \/ j = 9 \/ j = 10 \/ j = 11 := by omega
  rcases hcs with rfl | rfl | rfl | rfl | rfl | rfl | rfl | rfl | rfl | rfl | rfl | rfl
  · cases hc: ([43] == s.toList)
    · go_wp2
      go_round
      case rel => exact ⟨1,by omega,by go_num,HF.out 0 _ rfl HR.out hc⟩
      case measure => simp [intOf]
    · go_wp2
      go_ret
      exact ⟨Rw.ret_bool (HT.out 0 _ rfl hc).symm,Rw.below_alloc _ _⟩
  · cases hc: ([45] == s.toList)
    · go_wp2
      go_round
      case rel => exact ⟨2,by omega,by go_num,HF.out 1 _ rfl HR.out hc⟩
      case measure => simp [intOf]
    · go_wp2
      go_ret
      exact ⟨Rw.ret_bool (HT.out 1 _ rfl hc).symm,Rw.below_alloc _ _⟩
  · cases hc: ([42] == s.toList)
    · go_wp2
      go_round
      case rel => exact ⟨3,by omega,by go_num,HF.out 2 _ rfl HR.out hc⟩
      case measure => simp [intOf]
    · go_wp2
      go_ret
      exact ⟨Rw.ret_bool (HT.out 2 _ rfl hc).symm,Rw.below_alloc _ _⟩
  · cases hc: ([61] == s.toList)
    · go_wp2
      go_round
      case rel => exact ⟨4,by omega,by go_num,HF.out 3 _ rfl HR.out hc⟩
      case measure => simp [intOf]
    · go_wp2
      go_ret
      exact ⟨Rw.ret_bool (HT.out 3 _ rfl hc).symm,Rw.below_alloc _ _⟩
  · cases hc: ([60,62] == s.toList)
    · go_wp2
      go_round
      case rel => exact ⟨5,by omega,by go_num,HF.out 4 _ rfl HR.out hc⟩
      case measure => simp [intOf]
    · go_wp2
      go_ret
      exact ⟨Rw.ret_bool (HT.out 4 _ rfl hc).symm,Rw.below_alloc _ _⟩
  · cases hc: ([60] == s.toList)
    · go_wp2
      go_round
      case rel => exact ⟨6,by omega,by go_num,HF.out 5 _ rfl HR.out hc⟩
      case measure => simp [intOf]
    · go_wp2
      go_ret
      exact ⟨Rw.ret_bool (HT.out 5 _ rfl hc).symm,Rw.below_alloc _ _⟩
  · cases hc: ([60,61] == s.toList)
    · go_wp2
      go_round
      case rel => exact ⟨7,by omega,by go_num,HF.out 6 _ rfl HR.out hc⟩
      case measure => simp [intOf]
    · go_wp2
      go_ret
      exact ⟨Rw.ret_bool (HT.out 6 _ rfl hc).symm,Rw.below_alloc _ _⟩
  · cases hc: ([62] == s.toList)
    · go_wp2
      go_round
      case rel => exact ⟨8,by omega,by go_num,HF.out 7 _ rfl HR.out hc⟩
      case measure => simp [intOf]
    · go_wp2
      go_ret
      exact ⟨Rw.ret_bool (HT.out 7 _ rfl hc).symm,Rw.below_alloc _ _⟩
  · cases hc: ([62,61] == s.toList)
    · go_wp2
      go_round
      case rel => exact ⟨9,by omega,by go_num,HF.out 8 _ rfl HR.out hc⟩
      case measure => simp [intOf]
    · go_wp2
      go_ret
      exact ⟨Rw.ret_bool (HT.out 8 _ rfl hc).symm,Rw.below_alloc _ _⟩
  · cases hc: ([97,110,100] == s.toList)
    · go_wp2
      go_round
      case rel => exact ⟨10,by omega,by go_num,HF.out 9 _ rfl HR.out hc⟩
      case measure => simp [intOf]
    · go_wp2
      go_ret
      exact ⟨Rw.ret_bool (HT.out 9 _ rfl hc).symm,Rw.below_alloc _ _⟩
  · cases hc: ([111,114] == s.toList)
    · go_wp2
      go_round
      case rel => exact ⟨11,by omega,by go_num,HF.out 10 _ rfl HR.out hc⟩
      case measure => simp [intOf]
    · go_wp2
      go_ret
      exact ⟨Rw.ret_bool (HT.out 10 _ rfl hc).symm,Rw.below_alloc _ _⟩
  · go_wp2
    go_ret
    exact ⟨Rw.ret_bool (show false = isTwo s from HR.out.symm),Rw.below_alloc _ _⟩
theorem kidsI_value {s: ByteArray} (h: (s.toList == [118,97,108,117,101]) = true): kidsI s = 0 := by
 unfold kidsI; rw [bl_eq h]; decide
theorem kidsI_column {s: ByteArray} (h: (s.toList == [99,111,108,117,109,110]) = true): kidsI s = 0 := by
 unfold kidsI; rw [bl_eq h]; decide
theorem rightX_value {n: Nat} {xo: ByteArray} {xk xn: Int} {xs xv xc: ByteArray} {xa: Option Addr} {xp: Nat} {l: List XL} (h: (xo.toList == [118,97,108,117,101]) = true): rightX (n + 1) (.mk xo xk xn xs xv xc xa xp l) = (decide (l.length = 0) && (xv.toList == [] && xc.toList == [] && rightB xk xn xs && decide (0 <= xn))) := by
 show (decide (((l.length: Nat): Int) = kidsI xo) && (if (xo.toList == oVALUE) = true then xv.toList == [] && xc.toList == [] && rightB xk xn xs && decide (0 <= xn) else if (xo.toList == oCOLUMN) = true then (xk == 0 && xn == 0 && xs.toList == []) && nameB xc && (xv.toList == [] || nameB xv) else (xk == 0 && xn == 0 && xs.toList == []) && xv.toList == [] && xc.toList == [] && l.all (rightX n))) = _
 rw [kidsI_value h,if_pos (show (xo.toList == oVALUE) = true from h)]
 congr 1
 rw [Bool.eq_iff_iff]; simp
theorem rightX_column {n: Nat} {xo: ByteArray} {xk xn: Int} {xs xv xc: ByteArray} {xa: Option Addr} {xp: Nat} {l: List XL} (h: (xo.toList == [99,111,108,117,109,110]) = true): rightX (n + 1) (.mk xo xk xn xs xv xc xa xp l) = (decide (l.length = 0) && (xk == 0 && xn == 0 && xs.toList == [] && nameB xc && (xv.toList == [] || nameB xv))) := by
 show (decide (((l.length: Nat): Int) = kidsI xo) && (if (xo.toList == oVALUE) = true then xv.toList == [] && xc.toList == [] && rightB xk xn xs && decide (0 <= xn) else if (xo.toList == oCOLUMN) = true then (xk == 0 && xn == 0 && xs.toList == []) && nameB xc && (xv.toList == [] || nameB xv) else (xk == 0 && xn == 0 && xs.toList == []) && xv.toList == [] && xc.toList == [] && l.all (rightX n))) = _
 rw [kidsI_column h,if_neg (show ¬ (xo.toList == oVALUE) = true by rw [bl_eq h]; decide),if_pos (show (xo.toList == oCOLUMN) = true from h)]
 congr 1
 rw [Bool.eq_iff_iff]; simp
theorem right_neg {k n: Int} {s: ByteArray}: rightB k n s = true -> ¬ k = 2 -> 0 <= n := fun h hk => by
 rcases right_cases h with ⟨rfl,rfl,rfl⟩ | ⟨rfl,rfl | rfl,rfl⟩ | ⟨rfl,rfl⟩ | ⟨rfl,rfl,hs⟩
 · omega
 · omega
 · omega
 · exact absurd rfl hk
 · omega
theorem rightX_other {n: Nat} {xo: ByteArray} {xk xn: Int} {xs xv xc: ByteArray} {xa: Option Addr} {xp: Nat} {l: List XL} {m: Nat} (h1: (xo.toList == [118,97,108,117,101]) = false) (h2: (xo.toList == [99,111,108,117,109,110]) = false) (hk: kidsI xo = m): rightX (n + 1) (.mk xo xk xn xs xv xc xa xp l) = (decide (l.length = m) && (xk == 0 && xn == 0 && xs.toList == [] && xv.toList == [] && xc.toList == [] && l.all (rightX n))) := by
 show (decide (((l.length: Nat): Int) = kidsI xo) && (if (xo.toList == oVALUE) = true then xv.toList == [] && xc.toList == [] && rightB xk xn xs && decide (0 <= xn) else if (xo.toList == oCOLUMN) = true then (xk == 0 && xn == 0 && xs.toList == []) && nameB xc && (xv.toList == [] || nameB xv) else (xk == 0 && xn == 0 && xs.toList == []) && xv.toList == [] && xc.toList == [] && l.all (rightX n))) = _
 rw [hk,if_neg (show ¬ (xo.toList == oVALUE) = true from fun e => by rw [show (xo.toList == oVALUE) = false from h1] at e; cases e),if_neg (show ¬ (xo.toList == oCOLUMN) = true from fun e => by rw [show (xo.toList == oCOLUMN) = false from h2] at e; cases e)]
 congr 1
 rw [Bool.eq_iff_iff]; simp; omega
theorem kidsI_two {s: ByteArray} (h1: (s.toList == [118,97,108,117,101]) = false) (h2: (s.toList == [99,111,108,117,109,110]) = false) (h3: (s.toList == [110,101,103]) = false) (h4: (s.toList == [110,111,116]) = false) (h5: (s.toList == [110,117,108,108]) = false) (hT: isTwo s = true): kidsI s = (2: Nat) := by
 unfold isTwo at hT
 simp only [kidsI,oVALUE,oCOLUMN,ops1,oNEG,oNOT,oNULL,List.contains_cons,List.contains_nil,h1,h2,h3,h4,h5,hT,Bool.or_false,Bool.false_eq_true,if_false,if_true]
 rfl
theorem rightX_none {n: Nat} {xo: ByteArray} {xk xn: Int} {xs xv xc: ByteArray} {xa: Option Addr} {xp: Nat} {l: List XL} (h1: (xo.toList == [118,97,108,117,101]) = false) (h2: (xo.toList == [99,111,108,117,109,110]) = false) (h3: (xo.toList == [110,101,103]) = false) (h4: (xo.toList == [110,111,116]) = false) (h5: (xo.toList == [110,117,108,108]) = false) (hT: isTwo xo = false): rightX (n + 1) (.mk xo xk xn xs xv xc xa xp l) = false := by
 have hk: kidsI xo = -1 := by
  unfold isTwo at hT
  simp only [kidsI,oVALUE,oCOLUMN,ops1,oNEG,oNOT,oNULL,List.contains_cons,List.contains_nil,h1,h2,h3,h4,h5,hT,Bool.or_false,Bool.false_eq_true,if_false]
 show (decide (((l.length: Nat): Int) = kidsI xo) && (if (xo.toList == oVALUE) = true then xv.toList == [] && xc.toList == [] && rightB xk xn xs && decide (0 <= xn) else if (xo.toList == oCOLUMN) = true then (xk == 0 && xn == 0 && xs.toList == []) && nameB xc && (xv.toList == [] || nameB xv) else (xk == 0 && xn == 0 && xs.toList == []) && xv.toList == [] && xc.toList == [] && l.all (rightX n))) = _
 rw [hk,decide_eq_false (by omega),Bool.false_and]
theorem all_false {l: List XL} {f: XL -> Bool} {x: XL} (h: x ∈ l) (hf: f x = false): l.all f = false := by
 rw [List.all_eq_false]; exact ⟨x,h,by simp [hf]⟩
theorem all_take_true {l: List XL} {f: XL -> Bool} {j: Nat} {x: XL} (hx: l[j]? = some x) (h: (l.take j).all f = true) (hf: f x = true): (l.take (j + 1)).all f = true := by
 obtain ⟨hjl,rfl⟩ := List.getElem?_eq_some_iff.1 hx
 rw [List.take_succ_eq_append_getElem hjl,List.all_append,h]
 simp [hf]
theorem not_six {m k: Nat} {xk xn: Int} {a b c: List UInt8} {r: Bool} (h: ¬ (m = k /\ xk = 0 /\ xn = 0 /\ a = [] /\ b = [] /\ c = [])): (decide (m = k) && (xk == 0 && xn == 0 && a == [] && b == [] && c == [] && r)) = false := by
 rw [Bool.eq_false_iff]
 intro e
 simp only [Bool.and_eq_true,decide_eq_true_eq,beq_iff_eq] at e
 exact h ⟨e.1,e.2.1.1.1.1.1,e.2.1.1.1.1.2,e.2.1.1.1.2,e.2.1.1.2,e.2.1.2⟩
theorem after2 {w w1: World} {c0 c1 c2 c3 c4 c5 c6 z0 z1 z2: Value} {t t2: TypeId} (hb: Below ((w.alloc (.cells #[c0,c1,c2,c3,c4,c5,c6] t)).alloc (.cells #[z0,z1,z2] t2)).heap.size ((w.alloc (.cells #[c0,c1,c2,c3,c4,c5,c6] t)).alloc (.cells #[z0,z1,z2] t2)) w1) :
 w1.cell? ⟨w.heap.size,0,none⟩ = some c0 /\ w1.cell? ⟨w.heap.size,1,none⟩ = some c1 /\ w1.cell? ⟨w.heap.size,2,none⟩ = some c2 /\ w1.cell? ⟨w.heap.size,3,none⟩ = some c3 /\ w1.cell? ⟨w.heap.size,4,none⟩ = some c4 /\ w1.cell? ⟨w.heap.size,5,none⟩ = some c5 /\ w1.cell? ⟨w.heap.size,6,none⟩ = some c6 /\
 w1.cell? ⟨w.heap.size + 1,0,none⟩ = some z0 /\ w1.cell? ⟨w.heap.size + 1,1,none⟩ = some z1 /\ w1.cell? ⟨w.heap.size + 1,2,none⟩ = some z2 /\ Below w.heap.size w w1 := by
 have hA: ∀ o,w1.cell? ⟨w.heap.size,o,none⟩ = ((w.alloc (.cells #[c0,c1,c2,c3,c4,c5,c6] t)).alloc (.cells #[z0,z1,z2] t2)).cell? ⟨w.heap.size,o,none⟩ := fun o => hb.cell (by simp; omega)
 have hB: ∀ o,w1.cell? ⟨w.heap.size + 1,o,none⟩ = ((w.alloc (.cells #[c0,c1,c2,c3,c4,c5,c6] t)).alloc (.cells #[z0,z1,z2] t2)).cell? ⟨w.heap.size + 1,o,none⟩ := fun o => hb.cell (by simp)
 refine ⟨?_, ?_, ?_, ?_, ?_, ?_, ?_, ?_, ?_, ?_,dig_below_on ((Rw.below_alloc _ _).alloc (by simp) _) hb⟩
 all_goals first | (rw [hA]; simp [go_sem]; done) | (rw [hB]; simp [go_sem]; done)
def SizeP (M: Int) (w: World) (e: Ending) (W: World): Prop := ∃ v: Int,e = .returned (.int .i64 v) /\ 1 <= v /\ v <= M + 1 /\ Below w.heap.size w W
theorem size_walk: ∀ (n: Nat) (x: XL) (w: World) (M: Int),In n w x -> deepB n x = false -> 0 <= M -> M <= 1000 -> Calls Tryz.prog 106 #[xV x, .int .i64 M] w (SizeP M w)
 | 0,_,_,_,_,h,_,_ => by cases h
 | n + 1, .mk xo xk xn xs xv xc xa xp l,w,M,hi,hd,hM0,hM1 => by
  have IH := Rw.dh (size_walk n)
  have HS: Hid (Rw.SlG xC 7 w xa l) := hi.2.1
  have HK: Hid (∀ k ∈ l,In n w k) := hi.2.2
  have HD: Hid (∀ k ∈ l,deepB n k = false) := fun k hk => by
   have: l.any (deepB n) = false := hd
   exact Bool.eq_false_iff.2 (List.any_eq_false.1 this k hk)
  have hkl: l.length <= 1353245080300 := hi.1.kids
  clear hi hd
  show Calls Tryz.prog 106 #[.agg #[.string xo, .int .i64 xk, .int .i64 xn, .string xs, .string xv, .string xc, .slice xa l.length xp], .int .i64 M] w _
  go_enter Tryz.func106,Tryz.ntmps106
  go_wp2_with fail
  go_loopw [5,6] (fun v i wr => ∃ (j: Nat) (N: Int),j <= l.length /\ i = .int .i64 (j: Int) /\ v = .int .i64 N /\ 1 <= N /\ N <= M + 1 /\ Hid (Below w.heap.size w wr) /\ wr.cell? ⟨w.heap.size,6,none⟩ = some (.slice xa l.length xp)) (fun _ i _ => l.length - (intOf i).toNat)
  case atStart => exact ⟨0,1,Nat.zero_le _,rfl,rfl,by omega,by omega,Rw.below_alloc _ _,by simp [go_sem]⟩
  case round =>
   obtain ⟨j,N,hj,rfl,rfl,hN1,hN2,HB,hcell⟩ := hrel
   have hsl: w.heap.size < wr.heap.size := World.block_lt_of_cell? _ _ hcell
   by_cases hlt: j < l.length
   · by_cases hNM: N <= M
     · obtain ⟨b,o,k,rfl,hb,hx,hc⟩ := (HS.out.below HB.out).at hlt
       have HC := Rw.dh (fun W (hW: Below wr.heap.size wr W) => IH.out k W (M - N) ((HK.out k (List.mem_of_getElem? hx)).on (dig_below_on HB.out hW)) (HD.out k (List.mem_of_getElem? hx)) (by omega) (by omega))
       have c0: wr.cell? ⟨b,o + j * 7,none⟩ = some (.string k.op) := hc 0 _ rfl
       have c1: wr.cell? ⟨b,o + j * 7 + 1,none⟩ = some (.int .i64 k.vk) := hc 1 _ rfl
       have c2: wr.cell? ⟨b,o + j * 7 + 2,none⟩ = some (.int .i64 k.vn) := hc 2 _ rfl
       have c3: wr.cell? ⟨b,o + j * 7 + 3,none⟩ = some (.string k.vs) := hc 3 _ rfl
       have c4: wr.cell? ⟨b,o + j * 7 + 4,none⟩ = some (.string k.var) := hc 4 _ rfl
       have c5: wr.cell? ⟨b,o + j * 7 + 5,none⟩ = some (.string k.col) := hc 5 _ rfl
       have c6: wr.cell? ⟨b,o + j * 7 + 6,none⟩ = some (.slice k.a k.kids.length k.c) := hc 6 _ rfl
       clear hc hx
       go_wp2_with fail
       refine (HC.out _ (by first | exact Below.refl _ _ | exact Rw.below_alloc _ _)).mono ?_
       rintro e w1 ⟨v,rfl,hv1,hv2,hb1⟩
       have HB1 := Rw.dh (dig_below_on HB.out hb1)
       have hcell1: w1.cell? ⟨w.heap.size,6,none⟩ = some (.slice (some ⟨b,o,none⟩) l.length xp) := by rw [hb1.cell hsl]; exact hcell
       clear hb1 HC c0 c1 c2 c3 c4 c5 c6
       go_wp2
       go_roundw
       case rel => exact ⟨j + 1,N + v,hlt,by go_num,rfl,by omega,by omega,HB1,hcell1⟩
       case measure => simp [intOf]; omega
     · go_wp2
       go_ret
       exact ⟨N,rfl,by omega,by omega,HB.out⟩
   · go_wp2
     go_ret
     exact ⟨N,rfl,by omega,by omega,HB.out⟩
set_option linter.unusedVariables false in
theorem rrx_neg {n: Nat} {xo: ByteArray} {xk xn: Int} {xs xv xc: ByteArray} {xa: Option Addr} {xp: Nat} {l: List XL} {w: World} {N: Int} {R: Bool} (IH: Hid (∀ (x: XL) (w: World),In n w x -> Calls Tryz.prog 12 #[xV x, .int .i64 n] w fun e W => e = .returned (.bool (rightX n x)) /\ Below w.heap.size w W)) (HI: Hid (In (n + 1) w (.mk xo xk xn xs xv xc xa xp l))) (hkl: l.length <= 1353245080300) (hN1: 1 <= N) (hN2: N <= 1001) (hN3: N - 1 = (n: Int)) (hz: decide (N < 1) = false) (HR: Hid (rightX (n + 1) (.mk xo xk xn xs xv xc xa xp l) = R)) (h1: (xo.toList == [118,97,108,117,101]) = false) (h2: (xo.toList == [99,111,108,117,109,110]) = false) (h3: (xo.toList == [110,101,103]) = true) :
 Calls Tryz.prog 12 #[.agg #[.string xo, .int .i64 xk, .int .i64 xn, .string xs, .string xv, .string xc, .slice xa l.length xp], .int .i64 N] w fun e W => e = .returned (.bool R) /\ Below w.heap.size w W := by
 have HT := Rw.dh (fun W => two_walk xo W)
 have hT: isTwo xo = false := by unfold isTwo; rw [bl_eq h3]; decide
 rw [hT] at HT
 have HE: Hid (R = (decide (l.length = 1) && (xk == 0 && xn == 0 && xs.toList == [] && xv.toList == [] && xc.toList == [] && l.all (rightX n)))) := HR.out.symm.trans (rightX_other h1 h2 (by unfold kidsI; rw [bl_eq h3]; decide))
 by_cases hG: l.length = 1 /\ xk = 0 /\ xn = 0 /\ xs.toList = [] /\ xv.toList = [] /\ xc.toList = []
 · have HE2: Hid (R = l.all (rightX n)) := by show _ = _; rw [HE.out]; obtain ⟨g1,g2,g3,g4,g5,g6⟩ := hG; simp [g1,g2,g3,g4,g5,g6]
   have HS: Hid (Rw.SlG xC 7 w xa l) := HI.out.2.1
   have HK: Hid (∀ k ∈ l,In n w k) := HI.out.2.2
   obtain ⟨hlen,rfl,rfl,hxs,hxv,hxc⟩ := hG
   have HLn := Rw.dh hlen
   clear HI HR HE
   go_enter Tryz.func12,Tryz.ntmps12
   go_wp2_with (go_at_call 67; refine (HT.out _).mono ?_; rintro e w1 ⟨rfl,hb1⟩; obtain ⟨d0,d1,d2,d3,d4,d5,d6,e0,e1,e2,hB1⟩ := after2 hb1; clear hb1)
   go_loopw [7] (fun i wr => ∃ j: Nat,j <= 1 /\ i = .int .i64 (j: Int) /\ Hid (Below w.heap.size w wr /\ (l.take j).all (rightX n) = true) /\ wr.cell? ⟨w.heap.size,6,none⟩ = some (.slice xa 1 xp)) (fun i _ => 1 - (intOf i).toNat)
   case atStart => exact ⟨0,Nat.zero_le _,rfl,⟨hB1,rfl⟩,d6⟩
   case round =>
    obtain ⟨j,hj,rfl,HR,hcell⟩ := hrel
    have hsl: w.heap.size < wr.heap.size := World.block_lt_of_cell? _ _ hcell
    by_cases hlt: j < 1
    · obtain ⟨b,o,k,rfl,hb,hx,hc⟩ := (HS.out.below HR.out.1).at (j := j) (by rw [HLn.out]; exact hlt)
      have HX := Rw.dh hx
      have HC := Rw.dh (fun W (hW: Below wr.heap.size wr W) => IH.out k W ((HK.out k (List.mem_of_getElem? hx)).on (dig_below_on HR.out.1 hW)))
      have c0: wr.cell? ⟨b,o + j * 7,none⟩ = some (.string k.op) := hc 0 _ rfl
      have c1: wr.cell? ⟨b,o + j * 7 + 1,none⟩ = some (.int .i64 k.vk) := hc 1 _ rfl
      have c2: wr.cell? ⟨b,o + j * 7 + 2,none⟩ = some (.int .i64 k.vn) := hc 2 _ rfl
      have c3: wr.cell? ⟨b,o + j * 7 + 3,none⟩ = some (.string k.vs) := hc 3 _ rfl
      have c4: wr.cell? ⟨b,o + j * 7 + 4,none⟩ = some (.string k.var) := hc 4 _ rfl
      have c5: wr.cell? ⟨b,o + j * 7 + 5,none⟩ = some (.string k.col) := hc 5 _ rfl
      have c6: wr.cell? ⟨b,o + j * 7 + 6,none⟩ = some (.slice k.a k.kids.length k.c) := hc 6 _ rfl
      clear hc hx
      cases hr: rightX n k
      all_goals
       rw [hr] at HC
       go_wp2_with fail
       refine (HC.out _ (by first | exact Below.refl _ _ | exact Rw.below_alloc _ _)).mono ?_
       rintro e w2 ⟨rfl,hb2⟩
       have HB2 := Rw.dh (dig_below_on HR.out.1 hb2)
       have hcell2: w2.cell? ⟨w.heap.size,6,none⟩ = some (.slice (some ⟨b,o,none⟩) 1 xp) := by rw [hb2.cell hsl]; exact hcell
       clear hb2 HC c0 c1 c2 c3 c4 c5 c6
       go_wp2
      · go_ret
        refine ⟨Rw.ret_bool ?_,HB2.out⟩
        rw [HE2.out]
        exact (all_false (List.mem_of_getElem? HX.out) hr).symm
      · go_roundw
        case rel => exact ⟨j + 1,hlt,by go_num,⟨HB2.out,all_take_true HX.out HR.out.2 hr⟩,hcell2⟩
        case measure => simp [intOf]; omega
    · have hjs: j = 1 := by omega
      subst hjs
      go_wp2
      go_ret
      refine ⟨Rw.ret_bool ?_,HR.out.1⟩
      have := HR.out.2
      rw [<- HLn.out,List.take_length] at this
      rw [HE2.out,this]
 · have HF: Hid (R = false) := by
    show _ = _
    rw [HE.out]
    exact not_six hG
   clear HI HR HE IH
   have hGn := Rw.dh hG
   clear hG
   go_enter Tryz.func12,Tryz.ntmps12
   go_wp2_with (go_at_call 67; refine (HT.out _).mono ?_; rintro e w1 ⟨rfl,hb1⟩; obtain ⟨d0,d1,d2,d3,d4,d5,d6,e0,e1,e2,hB1⟩ := after2 hb1; clear hb1)
   all_goals first
    | (go_ret; exact ⟨Rw.ret_bool HF.out.symm,hB1⟩)
    | (exfalso; refine hGn.out ⟨?_, ?_, ?_, ?_, ?_, ?_⟩ <;> first | assumption | omega | (simp_all; done))
set_option linter.unusedVariables false in
theorem rrx_two {n: Nat} {xo: ByteArray} {xk xn: Int} {xs xv xc: ByteArray} {xa: Option Addr} {xp: Nat} {l: List XL} {w: World} {N: Int} {R: Bool} (IH: Hid (∀ (x: XL) (w: World),In n w x -> Calls Tryz.prog 12 #[xV x, .int .i64 n] w fun e W => e = .returned (.bool (rightX n x)) /\ Below w.heap.size w W)) (HI: Hid (In (n + 1) w (.mk xo xk xn xs xv xc xa xp l))) (hkl: l.length <= 1353245080300) (hN1: 1 <= N) (hN2: N <= 1001) (hN3: N - 1 = (n: Int)) (hz: decide (N < 1) = false) (HR: Hid (rightX (n + 1) (.mk xo xk xn xs xv xc xa xp l) = R)) (h1: (xo.toList == [118,97,108,117,101]) = false) (h2: (xo.toList == [99,111,108,117,109,110]) = false) (h3: (xo.toList == [110,101,103]) = false) (h4: (xo.toList == [110,111,116]) = false) (h5: (xo.toList == [110,117,108,108]) = false) (hTT: isTwo xo = true) :
 Calls Tryz.prog 12 #[.agg #[.string xo, .int .i64 xk, .int .i64 xn, .string xs, .string xv, .string xc, .slice xa l.length xp], .int .i64 N] w fun e W => e = .returned (.bool R) /\ Below w.heap.size w W := by
 have HT := Rw.dh (fun W => two_walk xo W)
 have hT: isTwo xo = true := hTT
 rw [hT] at HT
 have HE: Hid (R = (decide (l.length = 2) && (xk == 0 && xn == 0 && xs.toList == [] && xv.toList == [] && xc.toList == [] && l.all (rightX n)))) := HR.out.symm.trans (rightX_other h1 h2 (kidsI_two h1 h2 h3 h4 h5 hTT))
 by_cases hG: l.length = 2 /\ xk = 0 /\ xn = 0 /\ xs.toList = [] /\ xv.toList = [] /\ xc.toList = []
 · have HE2: Hid (R = l.all (rightX n)) := by show _ = _; rw [HE.out]; obtain ⟨g1,g2,g3,g4,g5,g6⟩ := hG; simp [g1,g2,g3,g4,g5,g6]
   have HS: Hid (Rw.SlG xC 7 w xa l) := HI.out.2.1
   have HK: Hid (∀ k ∈ l,In n w k) := HI.out.2.2
   obtain ⟨hlen,rfl,rfl,hxs,hxv,hxc⟩ := hG
   have HLn := Rw.dh hlen
   clear HI HR HE
   go_enter Tryz.func12,Tryz.ntmps12
   go_wp2_with (go_at_call 67; refine (HT.out _).mono ?_; rintro e w1 ⟨rfl,hb1⟩; obtain ⟨d0,d1,d2,d3,d4,d5,d6,e0,e1,e2,hB1⟩ := after2 hb1; clear hb1)
   go_loopw [7] (fun i wr => ∃ j: Nat,j <= 2 /\ i = .int .i64 (j: Int) /\ Hid (Below w.heap.size w wr /\ (l.take j).all (rightX n) = true) /\ wr.cell? ⟨w.heap.size,6,none⟩ = some (.slice xa 2 xp)) (fun i _ => 2 - (intOf i).toNat)
   case atStart => exact ⟨0,Nat.zero_le _,rfl,⟨hB1,rfl⟩,d6⟩
   case round =>
    obtain ⟨j,hj,rfl,HR,hcell⟩ := hrel
    have hsl: w.heap.size < wr.heap.size := World.block_lt_of_cell? _ _ hcell
    by_cases hlt: j < 2
    · obtain ⟨b,o,k,rfl,hb,hx,hc⟩ := (HS.out.below HR.out.1).at (j := j) (by rw [HLn.out]; exact hlt)
      have HX := Rw.dh hx
      have HC := Rw.dh (fun W (hW: Below wr.heap.size wr W) => IH.out k W ((HK.out k (List.mem_of_getElem? hx)).on (dig_below_on HR.out.1 hW)))
      have c0: wr.cell? ⟨b,o + j * 7,none⟩ = some (.string k.op) := hc 0 _ rfl
      have c1: wr.cell? ⟨b,o + j * 7 + 1,none⟩ = some (.int .i64 k.vk) := hc 1 _ rfl
      have c2: wr.cell? ⟨b,o + j * 7 + 2,none⟩ = some (.int .i64 k.vn) := hc 2 _ rfl
      have c3: wr.cell? ⟨b,o + j * 7 + 3,none⟩ = some (.string k.vs) := hc 3 _ rfl
      have c4: wr.cell? ⟨b,o + j * 7 + 4,none⟩ = some (.string k.var) := hc 4 _ rfl
      have c5: wr.cell? ⟨b,o + j * 7 + 5,none⟩ = some (.string k.col) := hc 5 _ rfl
      have c6: wr.cell? ⟨b,o + j * 7 + 6,none⟩ = some (.slice k.a k.kids.length k.c) := hc 6 _ rfl
      clear hc hx
      cases hr: rightX n k
      all_goals
       rw [hr] at HC
       go_wp2_with fail
       refine (HC.out _ (by first | exact Below.refl _ _ | exact Rw.below_alloc _ _)).mono ?_
       rintro e w2 ⟨rfl,hb2⟩
       have HB2 := Rw.dh (dig_below_on HR.out.1 hb2)
       have hcell2: w2.cell? ⟨w.heap.size,6,none⟩ = some (.slice (some ⟨b,o,none⟩) 2 xp) := by rw [hb2.cell hsl]; exact hcell
       clear hb2 HC c0 c1 c2 c3 c4 c5 c6
       go_wp2
      · go_ret
        refine ⟨Rw.ret_bool ?_,HB2.out⟩
        rw [HE2.out]
        exact (all_false (List.mem_of_getElem? HX.out) hr).symm
      · go_roundw
        case rel => exact ⟨j + 1,hlt,by go_num,⟨HB2.out,all_take_true HX.out HR.out.2 hr⟩,hcell2⟩
        case measure => simp [intOf]; omega
    · have hjs: j = 2 := by omega
      subst hjs
      go_wp2
      go_ret
      refine ⟨Rw.ret_bool ?_,HR.out.1⟩
      have := HR.out.2
      rw [<- HLn.out,List.take_length] at this
      rw [HE2.out,this]
 · have HF: Hid (R = false) := by
    show _ = _
    rw [HE.out]
    exact not_six hG
   clear HI HR HE IH
   have hGn := Rw.dh hG
   clear hG
   go_enter Tryz.func12,Tryz.ntmps12
   go_wp2_with (go_at_call 67; refine (HT.out _).mono ?_; rintro e w1 ⟨rfl,hb1⟩; obtain ⟨d0,d1,d2,d3,d4,d5,d6,e0,e1,e2,hB1⟩ := after2 hb1; clear hb1)
   all_goals first
    | (go_ret; exact ⟨Rw.ret_bool HF.out.symm,hB1⟩)
    | (exfalso; refine hGn.out ⟨?_, ?_, ?_, ?_, ?_, ?_⟩ <;> first | assumption | omega | (simp_all; done))
end Go.Proofs.YteibhbnlcpejpaaGreat
