import Derived.Test.YtdaikppppkbfoabMAI
set_option maxRecDepth 100000
set_option maxHeartbeats 4000000
namespace Go.Proofs.Ytdaikppppkbfoab
open Go.RowKit
theorem bl_eqN {s: ByteArray} {l: List UInt8} (h: (s.toList == l) = true): s.toList = l := eq_of_beq h
theorem nkids_walk (s: ByteArray) (w: World): Calls Try.prog 70 #[.string s] w fun e w' => e = .returned (.int .i64 (kidsN s)) /\ w' = w := by
 cases h0: (s.toList == [118,97,108,117,101])
 case true =>
  have HE: Hid (kidsN s = 0) := by show _ = _; have e := bl_eqN h0; unfold kidsN; rw [e]; decide
  go_enter Try.func70,Try.ntmps70
  go_wp2
  go_ret
  exact ⟨Rw.ret_int HE.out.symm,rfl⟩
 cases h1: (s.toList == [99,111,108,117,109,110])
 case true =>
  have HE: Hid (kidsN s = 0) := by show _ = _; have e := bl_eqN h1; unfold kidsN; rw [e]; decide
  go_enter Try.func70,Try.ntmps70
  go_wp2
  go_ret
  exact ⟨Rw.ret_int HE.out.symm,rfl⟩
 cases h2: (s.toList == [110,101,103])
 case true =>
  have HE: Hid (kidsN s = 1) := by show _ = _; have e := bl_eqN h2; unfold kidsN; rw [e]; decide
  go_enter Try.func70,Try.ntmps70
  go_wp2
  go_ret
  exact ⟨Rw.ret_int HE.out.symm,rfl⟩
 cases h3: (s.toList == [110,111,116])
 case true =>
  have HE: Hid (kidsN s = 1) := by show _ = _; have e := bl_eqN h3; unfold kidsN; rw [e]; decide
  go_enter Try.func70,Try.ntmps70
  go_wp2
  go_ret
  exact ⟨Rw.ret_int HE.out.symm,rfl⟩
 cases h4: (s.toList == [110,117,108,108])
 case true =>
  have HE: Hid (kidsN s = 1) := by show _ = _; have e := bl_eqN h4; unfold kidsN; rw [e]; decide
  go_enter Try.func70,Try.ntmps70
  go_wp2
  go_ret
  exact ⟨Rw.ret_int HE.out.symm,rfl⟩
 cases h5: (s.toList == [43])
 case true =>
  have HE: Hid (kidsN s = 2) := by show _ = _; have e := bl_eqN h5; unfold kidsN; rw [e]; decide
  go_enter Try.func70,Try.ntmps70
  go_wp2
  go_ret
  exact ⟨Rw.ret_int HE.out.symm,rfl⟩
 cases h6: (s.toList == [45])
 case true =>
  have HE: Hid (kidsN s = 2) := by show _ = _; have e := bl_eqN h6; unfold kidsN; rw [e]; decide
  go_enter Try.func70,Try.ntmps70
  go_wp2
  go_ret
  exact ⟨Rw.ret_int HE.out.symm,rfl⟩
 cases h7: (s.toList == [42])
 case true =>
  have HE: Hid (kidsN s = 2) := by show _ = _; have e := bl_eqN h7; unfold kidsN; rw [e]; decide
  go_enter Try.func70,Try.ntmps70
  go_wp2
  go_ret
  exact ⟨Rw.ret_int HE.out.symm,rfl⟩
 cases h8: (s.toList == [61])
 case true =>
  have HE: Hid (kidsN s = 2) := by show _ = _; have e := bl_eqN h8; unfold kidsN; rw [e]; decide
  go_enter Try.func70,Try.ntmps70
  go_wp2
  go_ret
  exact ⟨Rw.ret_int HE.out.symm,rfl⟩
 cases h9: (s.toList == [60,62])
 case true =>
  have HE: Hid (kidsN s = 2) := by show _ = _; have e := bl_eqN h9; unfold kidsN; rw [e]; decide
  go_enter Try.func70,Try.ntmps70
  go_wp2
  go_ret
  exact ⟨Rw.ret_int HE.out.symm,rfl⟩
 cases h10: (s.toList == [60])
 case true =>
  have HE: Hid (kidsN s = 2) := by show _ = _; have e := bl_eqN h10; unfold kidsN; rw [e]; decide
  go_enter Try.func70,Try.ntmps70
  go_wp2
  go_ret
  exact ⟨Rw.ret_int HE.out.symm,rfl⟩
 cases h11: (s.toList == [60,61])
 case true =>
  have HE: Hid (kidsN s = 2) := by show _ = _; have e := bl_eqN h11; unfold kidsN; rw [e]; decide
  go_enter Try.func70,Try.ntmps70
  go_wp2
  go_ret
  exact ⟨Rw.ret_int HE.out.symm,rfl⟩
 cases h12: (s.toList == [62])
 case true =>
  have HE: Hid (kidsN s = 2) := by show _ = _; have e := bl_eqN h12; unfold kidsN; rw [e]; decide
  go_enter Try.func70,Try.ntmps70
  go_wp2
  go_ret
  exact ⟨Rw.ret_int HE.out.symm,rfl⟩
 cases h13: (s.toList == [62,61])
 case true =>
  have HE: Hid (kidsN s = 2) := by show _ = _; have e := bl_eqN h13; unfold kidsN; rw [e]; decide
  go_enter Try.func70,Try.ntmps70
  go_wp2
  go_ret
  exact ⟨Rw.ret_int HE.out.symm,rfl⟩
 cases h14: (s.toList == [97,110,100])
 case true =>
  have HE: Hid (kidsN s = 2) := by show _ = _; have e := bl_eqN h14; unfold kidsN; rw [e]; decide
  go_enter Try.func70,Try.ntmps70
  go_wp2
  go_ret
  exact ⟨Rw.ret_int HE.out.symm,rfl⟩
 cases h15: (s.toList == [111,114])
 case true =>
  have HE: Hid (kidsN s = 2) := by show _ = _; have e := bl_eqN h15; unfold kidsN; rw [e]; decide
  go_enter Try.func70,Try.ntmps70
  go_wp2
  go_ret
  exact ⟨Rw.ret_int HE.out.symm,rfl⟩
 have HE: Hid (kidsN s = -1) := by
  show _ = _
  simp only [kidsN,nVALUE,nCOLUMN,nops1,nops2,nNEG,nNOT,nNULL,List.contains_cons,List.contains_nil,h0,h1,h2,h3,h4,h5,h6,h7,h8,h9,h10,h11,h12,h13,h14,h15,Bool.or_false,Bool.false_eq_true,if_false]
 go_enter Try.func70,Try.ntmps70
 go_wp2
 go_ret
 exact ⟨Rw.ret_int HE.out.symm,rfl⟩
end Go.Proofs.Ytdaikppppkbfoab
