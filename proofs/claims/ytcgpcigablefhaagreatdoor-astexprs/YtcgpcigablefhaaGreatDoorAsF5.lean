/-
  Ast: RightExpr of the document, at one kind of Op.
-/
import Derived.Test.YtcgpcigablefhaaGreatDoorAsFl
namespace Go.Proofs.YtcgpcigablefhaaGreatDoor
open Go.RowKit

set_option maxRecDepth 100000 in
set_option maxHeartbeats 4000000 in
set_option linter.unusedVariables false in
theorem rrx_none {n : Nat} {xo : ByteArray} {xk xn : Int} {xs xv xc : ByteArray} {xa : Option Addr} {xp : Nat} {l : List XL} {w : World} {N : Int} {R : Bool} (IH : Hid (∀ (x : XL) (w : World), In n w x → Calls Tryz.prog 16 #[xV x, .int .i64 n] w fun e W => e = .returned (.bool (rightX n x)) ∧ Below w.heap.size w W)) (HI : Hid (In (n + 1) w (.mk xo xk xn xs xv xc xa xp l))) (hkl : l.length ≤ 1353245080300) (hN1 : 1 ≤ N) (hN2 : N ≤ 1001) (hN3 : N - 1 = (n : Int)) (hz : decide (N < 1) = false) (HR : Hid (rightX (n + 1) (.mk xo xk xn xs xv xc xa xp l) = R)) (h1 : (xo.toList == [118, 97, 108, 117, 101]) = false) (h2 : (xo.toList == [99, 111, 108, 117, 109, 110]) = false) (h3 : (xo.toList == [110, 101, 103]) = false) (h4 : (xo.toList == [110, 111, 116]) = false) (h5 : (xo.toList == [110, 117, 108, 108]) = false) (hTT : isTwo xo = false) :
    Calls Tryz.prog 16 #[.agg #[.string xo, .int .i64 xk, .int .i64 xn, .string xs, .string xv, .string xc, .slice xa l.length xp], .int .i64 N] w fun e W => e = .returned (.bool R) ∧ Below w.heap.size w W := by
  have HT := Rw.dh (fun W => two_walk xo W)
  have hT : isTwo xo = false := hTT
  rw [hT] at HT
  have HE : Hid (R = false) := HR.out.symm.trans (rightX_none h1 h2 h3 h4 h5 hT)
  go_enter Tryz.func16, Tryz.ntmps16
  go_wp2_with (go_at_call 45; refine (HT.out _).mono ?_; rintro e w1 ⟨rfl, hb1⟩; obtain ⟨d0, d1, d2, d3, d4, d5, d6, e0, e1, e2, hB1⟩ := after2 hb1; clear hb1)
  go_ret
  exact ⟨Rw.ret_bool HE.out.symm, hB1⟩
end Go.Proofs.YtcgpcigablefhaaGreatDoor
