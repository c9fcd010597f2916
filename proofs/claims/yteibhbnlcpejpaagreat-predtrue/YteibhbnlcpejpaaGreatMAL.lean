import Derived.Test.YteibhbnlcpejpaaGreatMAJ
set_option maxRecDepth 100000
set_option maxHeartbeats 4000000
namespace Go.Proofs.YteibhbnlcpejpaaGreat
open Go.RowKit
theorem bl_eqN {s: ByteArray} {l: List UInt8} (h: (s.toList == l) = true): s.toList = l := eq_of_beq h
theorem nkids_walk (s: ByteArray) (w: World): Calls Tryz.prog 201 #[.string s] w fun e w' => e = .returned (.int .i64 (kidsN s)) /\ w' = w := by
 cases h0: (s.toList == [118,97,108,117,101])
 case true =>
  have HE: Hid (kidsN s = 0) := by show _ = _; have e := bl_eqN h0; unfold kidsN; rw [e]; decide
  go_enter Tryz.func201,Tryz.ntmps201
  go_wp2
  go_ret
  exact ⟨Rw.ret_int HE.out.symm,rfl⟩
 cases h1: (s.toList == [99,111,108,117,109,110])
 case true =>
  have HE: Hid (kidsN s = 0) := by show _ = _; have e := bl_eqN h1; unfold kidsN; rw [e]; decide
  go_enter Tryz.func201,Tryz.ntmps201
  go_wp2
  go_ret
  exact ⟨Rw.ret_int HE.out.symm,rfl⟩
 cases h2: (s.toList == [110,101,103])
 case true =>
  have HE: Hid (kidsN s = 1) := by show _ = _; have e := bl_eqN h2; unfold kidsN; rw [e]; decide
  go_enter Tryz.func201,Tryz.ntmps201
  go_wp2
  go_ret
  exact ⟨Rw.ret_int HE.out.symm,rfl⟩
 cases h3: (s.toList == [110,111,116])
 case true =>
  have HE: Hid (kidsN s = 1) := by show _ = _; have e := bl_eqN h3; unfold kidsN; rw [e]; decide
  go_enter Tryz.func201,Tryz.ntmps201
  go_wp2
  go_ret
  exact ⟨Rw.ret_int HE.out.symm,rfl⟩
 cases h4: (s.toList == [110,117,108,108])
 case true =>
  have HE: Hid (kidsN s = 1) := by show _ = _; have e := bl_eqN h4; unfold kidsN; rw [e]; decide
  go_enter Tryz.func201,Tryz.ntmps201
  go_wp2
  go_ret
  exact ⟨Rw.ret_int HE.out.symm,rfl⟩
 cases h5: (s.toList == [43])
 case true =>
  have HE: Hid (kidsN s = 2) := by show _ = _; have e := bl_eqN h5; unfold kidsN; rw [e]; decide
  go_enter Tryz.func201,Tryz.ntmps201
  go_wp2
  go_ret
  exact ⟨Rw.ret_int HE.out.symm,rfl⟩
 cases h6: (s.toList == [45])
 case true =>
  have HE: Hid (kidsN s = 2) := by show _ = _; have e := bl_eqN h6; unfold kidsN; rw [e]; decide
  go_enter Tryz.func201,Tryz.ntmps201
  go_wp2
  go_ret
  exact ⟨Rw.ret_int HE.out.symm,rfl⟩
 cases h7: (s.toList == [42])
 case true =>
  have HE: Hid (kidsN s = 2) := by show _ = _; have e := bl_eqN h7; unfold kidsN; rw [e]; decide
  go_enter Tryz.func201,Tryz.ntmps201
  go_wp2
  go_ret
  exact ⟨Rw.ret_int HE.out.symm,rfl⟩
 cases h8: (s.toList == [61])
 case true =>
  have HE: Hid (kidsN s = 2) := by show _ = _; have e := bl_eqN h8; unfold kidsN; rw [e]; decide
  go_enter Tryz.func201,Tryz.ntmps201
  go_wp2
  go_ret
  exact ⟨Rw.ret_int HE.out.symm,rfl⟩
 cases h9: (s.toList == [60,62])
 case true =>
  have HE: Hid (kidsN s = 2) := by show _ = _; have e := bl_eqN h9; unfold kidsN; rw [e]; decide
  go_enter Tryz.func201,Tryz.ntmps201
  go_wp2
  go_ret
  exact ⟨Rw.ret_int HE.out.symm,rfl⟩
 cases h10: (s.toList == [60])
 case true =>
  have HE: Hid (kidsN s = 2) := by show _ = _; have e := bl_eqN h10; unfold kidsN; rw [e]; decide
  go_enter Tryz.func201,Tryz.ntmps201
  go_wp2
  go_ret
  exact ⟨Rw.ret_int HE.out.symm,rfl⟩
 cases h11: (s.toList == [60,61])
 case true =>
  have HE: Hid (kidsN s = 2) := by show _ = _; have e := bl_eqN h11; unfold kidsN; rw [e]; decide
  go_enter Tryz.func201,Tryz.ntmps201
  go_wp2
  go_ret
  exact ⟨Rw.ret_int HE.out.symm,rfl⟩
 cases h12: (s.toList == [62])
 case true =>
  have HE: Hid (kidsN s = 2) := by show _ = _; have e := bl_eqN h12; unfold kidsN; rw [e]; decide
  go_enter Tryz.func201,Tryz.ntmps201
  go_wp2
  go_ret
  exact ⟨Rw.ret_int HE.out.symm,rfl⟩
 cases h13: (s.toList == [62,61])
 case true =>
  have HE: Hid (kidsN s = 2) := by show _ = _; have e := bl_eqN h13; unfold kidsN; rw [e]; decide
  go_enter Tryz.func201,Tryz.ntmps201
  go_wp2
  go_ret
  exact ⟨Rw.ret_int HE.out.symm,rfl⟩
 cases h14: (s.toList == [97,110,100])
 case true =>
  have HE: Hid (kidsN s = 2) := by show _ = _; have e := bl_eqN h14; unfold kidsN; rw [e]; decide
  go_enter Tryz.func201,Tryz.ntmps201
  go_wp2
  go_ret
  exact ⟨Rw.ret_int HE.out.symm,rfl⟩
 cases h15: (s.toList == [111,114])
 case true =>
  have HE: Hid (kidsN s = 2) := by show _ = _; have e := bl_eqN h15; unfold kidsN; rw [e]; decide
  go_enter Tryz.func201,Tryz.ntmps201
  go_wp2
  go_ret
  exact ⟨Rw.ret_int HE.out.symm,rfl⟩
 have HE: Hid (kidsN s = -1) := by
  show _ = _
  simp only [kidsN,nVALUE,nCOLUMN,nops1,nops2,nNEG,nNOT,nNULL,List.contains_cons,List.contains_nil,h0,h1,h2,h3,h4,h5,h6,h7,h8,h9,h10,h11,h12,h13,h14,h15,Bool.or_false,Bool.false_eq_true,if_false]
 go_enter Tryz.func201,Tryz.ntmps201
 go_wp2
 go_ret
 exact ⟨Rw.ret_int HE.out.symm,rfl⟩
def isTwoN (s: ByteArray): Bool := nops2.contains s.toList
theorem beqcN (a b: List UInt8): (a == b) = (b == a) := by
 rw [Bool.eq_iff_iff,beq_iff_eq,beq_iff_eq]; exact eq_comm
theorem ntwo_walk (s: ByteArray) (w: World): Calls Tryz.prog 67 #[.string s] w fun e w' => e = .returned (.bool (isTwoN s)) /\ Below w.heap.size w w' := by
 have HT: Hid (∀ j: Nat,∀ c,nops2[j]? = some c -> (c == s.toList) = true -> isTwoN s = true) := fun j c h e => by
  unfold isTwoN
  rw [List.contains_iff_mem, <- eq_of_beq e]; exact List.mem_of_getElem? h
 have HF: Hid (∀ j: Nat,∀ c,nops2[j]? = some c -> (nops2.take j).contains s.toList = false -> (c == s.toList) = false -> (nops2.take (j + 1)).contains s.toList = false) := fun j c h h1 h2 => by
  obtain ⟨hj,rfl⟩ := List.getElem?_eq_some_iff.1 h
  rw [List.take_succ_eq_append_getElem hj]
  rw [beqcN] at h2
  rw [List.contains_eq_any_beq] at h1 ⊢
  rw [List.any_append,h1]
  simp [h2]
 go_enter Tryz.func67,Tryz.ntmps67
 go_wp2_with fail
 go_loop [4] (fun i => ∃ j: Nat,j <= 11 /\ i = .int .i64 (j: Int) /\ Hid ((nops2.take j).contains s.toList = false)) (fun i => 11 - (intOf i).toNat)
 case atStart => exact ⟨0,by omega,rfl,rfl⟩
 case round =>
  obtain ⟨j,hj,rfl,HR⟩ := hrel
  have hcs: j = 0 \/ j = 1 \/ j = 2 \/ j = 3 \/ j = 4 \/ j = 5 \/ j = 6 \/ j = 7 \/ j = 8 \/ j = 9 \/ j = 10 \/ j = 11 := by omega
  rcases hcs with rfl | rfl | rfl | rfl | rfl | rfl | rfl | rfl | rfl | rfl | rfl | rfl
  · cases hc: ([43] == s.toList)
    · go_wp2
      go_round
      case rel => exact ⟨1,by omega,by go_num,HF.out 0 _ rfl HR.out hc⟩
      case measure => simp [intOf]
    · go_wp2
      go_ret
      exact ⟨Rw.ret_bool (HT.out 0 _ rfl hc).symm,Rw.below_alloc _ _⟩
  · cases hc: ([45] == s.toList)
    · go_wp2
      go_round
      case rel => exact ⟨2,by omega,by go_num,HF.out 1 _ rfl HR.out hc⟩
      case measure => simp [intOf]
    · go_wp2
      go_ret
      exact ⟨Rw.ret_bool (HT.out 1 _ rfl hc).symm,Rw.below_alloc _ _⟩
  · cases hc: ([42] == s.toList)
    · go_wp2
      go_round
      case rel => exact ⟨3,by omega,by go_num,HF.out 2 _ rfl HR.out hc⟩
      case measure => simp [intOf]
    · go_wp2
      go_ret
      exact ⟨Rw.ret_bool (HT.out 2 _ rfl hc).symm,Rw.below_alloc _ _⟩
  · cases hc: ([61] == s.toList)
    · go_wp2
      go_round
      case rel => exact ⟨4,by omega,by go_num,HF.out 3 _ rfl HR.out hc⟩
      case measure => simp [intOf]
    · go_wp2
      go_ret
      exact ⟨Rw.ret_bool (HT.out 3 _ rfl hc).symm,Rw.below_alloc _ _⟩
  · cases hc: ([60,62] == s.toList)
    · go_wp2
      go_round
      case rel => exact ⟨5,by omega,by go_num,HF.out 4 _ rfl HR.out hc⟩
      case measure => simp [intOf]
    · go_wp2
      go_ret
      exact ⟨Rw.ret_bool (HT.out 4 _ rfl hc).symm,Rw.below_alloc _ _⟩
  · cases hc: ([60] == s.toList)
    · go_wp2
      go_round
      case rel => exact ⟨6,by omega,by go_num,HF.out 5 _ rfl HR.out hc⟩
      case measure => simp [intOf]
    · go_wp2
      go_ret
      exact ⟨Rw.ret_bool (HT.out 5 _ rfl hc).symm,Rw.below_alloc _ _⟩
  · cases hc: ([60,61] == s.toList)
    · go_wp2
      go_round
      case rel => exact ⟨7,by omega,by go_num,HF.out 6 _ rfl HR.out hc⟩
      case measure => simp [intOf]
    · go_wp2
      go_ret
      exact ⟨Rw.ret_bool (HT.out 6 _ rfl hc).symm,Rw.below_alloc _ _⟩
  · cases hc: ([62] == s.toList)
    · go_wp2
      go_round
      case rel => exact ⟨8,by omega,by go_num,HF.out 7 _ rfl HR.out hc⟩
      case measure => simp [intOf]
    · go_wp2
      go_ret
      exact ⟨Rw.ret_bool (HT.out 7 _ rfl hc).symm,Rw.below_alloc _ _⟩
  · cases hc: ([62,61] == s.toList)
    · go_wp2
      go_round
      case rel => exact ⟨9,by omega,by go_num,HF.out 8 _ rfl HR.out hc⟩
      case measure => simp [intOf]
    · go_wp2
      go_ret
      exact ⟨Rw.ret_bool (HT.out 8 _ rfl hc).symm,Rw.below_alloc _ _⟩
  · cases hc: ([97,110,100] == s.toList)
    · go_wp2
      go_round
      case rel => exact ⟨10,by omega,by go_num,HF.out 9 _ rfl HR.out hc⟩
      case measure => simp [intOf]
    · go_wp2
      go_ret
      exact ⟨Rw.ret_bool (HT.out 9 _ rfl hc).symm,Rw.below_alloc _ _⟩
  · cases hc: ([111,114] == s.toList)
    · go_wp2
      go_round
      case rel => exact ⟨11,by omega,by go_num,HF.out 10 _ rfl HR.out hc⟩
      case measure => simp [intOf]
    · go_wp2
      go_ret
      exact ⟨Rw.ret_bool (HT.out 10 _ rfl hc).symm,Rw.below_alloc _ _⟩
  · go_wp2
    go_ret
    exact ⟨Rw.ret_bool (show false = isTwoN s from HR.out.symm),Rw.below_alloc _ _⟩
end Go.Proofs.YteibhbnlcpejpaaGreat
