/-
  Ast: Right and Show of a Delete with a condition; the law's example.
-/
import Derived.Deep.RegionHeld
import Derived.Test.YtcgpcigablefhaaGreatDoorAsM
namespace Go.Proofs.YtcgpcigablefhaaGreatDoor
open Go.RowKit

/-- A Delete of a table with one condition. -/
def dV (tb : ByteArray) (a : Option Addr) (c : Nat) : Value := .agg #[.int .i64 14, .string ⟨#[]⟩, .string tb, .string ⟨#[]⟩, .slice none 0 0, .slice none 0 0, .slice none 0 0, .slice a 1 c, .slice none 0 0, .slice none 0 0, .int .i64 0, .int .i64 0, .bool false, .bool false, .slice none 0 0]

set_option maxRecDepth 100000 in
set_option maxHeartbeats 1000000 in
theorem rlx_walk {x : XL} {a : Option Addr} {c : Nat} {w : World} (hS : Rw.SlG xC 7 w a [x]) (hI : In 20 w x) :
    Calls Tryz.prog 29 #[.slice a 1 c, .int .i64 0, .int .i64 1, .func (.func 17) #[] #[]] w fun e W => e = .returned (.bool (rightX 20 x)) ∧ Below w.heap.size w W := by
  have HA : Hid (∀ W, Below w.heap.size w W → Calls Tryz.prog 60 #[.slice a 1 c, .func (.func 17) #[] #[]] W fun e W' => e = .returned (.bool (rightX 20 x)) ∧ Below W.heap.size W W') := fun W hb => by
    have := allX_rx (f := rightX 20) (c := c) (hS.below hb) (by simp) (fun k hk W' hb' => by
      simp at hk
      subst hk
      exact rx_walk k W' (hI.on (dig_below_on hb hb')))
    simpa using this
  clear hS hI
  generalize rightX 20 x = R at *
  go_enter Tryz.func29, Tryz.ntmps29
  go_wp2_with fail
  refine (HA.out _ (by first | exact Below.refl _ _ | exact Rw.below_alloc _ _)).mono ?_
  rintro e w1 ⟨rfl, hb1⟩
  have HB := Rw.dh hb1
  clear hb1
  go_wp2
  go_ret
  exact ⟨rfl, by first | exact HB.out | exact dig_below_on (Rw.below_alloc _ _) HB.out⟩

set_option maxRecDepth 100000 in
set_option maxHeartbeats 1000000 in
theorem rwh_walk {x : XL} {a : Option Addr} {c : Nat} {tb : ByteArray} {w : World} (hS : Rw.SlG xC 7 w a [x]) (hI : In 20 w x) :
    Calls Tryz.prog 33 #[dV tb a c] w fun e W => e = .returned (.bool (rightX 20 x)) ∧ Below w.heap.size w W := by
  have HA := Rw.dh (fun W (hb : Below w.heap.size w W) => rlx_walk (c := c) (hS.below hb) (hI.on hb))
  clear hS hI
  generalize rightX 20 x = R at *
  unfold dV
  go_enter Tryz.func33, Tryz.ntmps33
  go_wp2_with fail
  refine (HA.out _ (by first | exact Below.refl _ _ | exact Rw.below_alloc _ _)).mono ?_
  rintro e w1 ⟨rfl, hb1⟩
  have HB := Rw.dh hb1
  clear hb1
  go_wp2
  go_ret
  exact ⟨rfl, by first | exact HB.out | exact dig_below_on (Rw.below_alloc _ _) HB.out⟩

/-- What of it is its own. -/
def dO (tb : ByteArray) (a : Option Addr) (c : Nat) : Value := .agg #[.int .i64 0, .string ⟨#[]⟩, .string tb, .string ⟨#[]⟩, .slice none 0 0, .slice none 0 0, .slice none 0 0, .slice a 1 c, .slice none 0 0, .slice none 0 0, .int .i64 0, .int .i64 0, .bool false, .bool false, .slice none 0 0]

set_option maxRecDepth 100000 in
set_option maxHeartbeats 1000000 in
theorem own_del {a : Option Addr} {c : Nat} {tb : ByteArray} (w : World) : Calls Tryz.prog 25 #[dV tb a c] w fun e W => e = .returned (dO tb a c) ∧ Below w.heap.size w W := by
  unfold dV dO
  go_enter Tryz.func25, Tryz.ntmps25
  go_wp2
  refine bodyPost_ret (v := .agg #[.int .i64 0, .string ⟨#[]⟩, .string tb, .string ⟨#[]⟩, .slice none 0 0, .slice none 0 0, .slice none 0 0, .slice a 1 c, .slice none 0 0, .slice none 0 0, .int .i64 0, .int .i64 0, .bool false, .bool false, .slice none 0 0]) (by simp [results, Tryz.results25, go_sem]) rfl ⟨rfl, ?_⟩
  repeat (first | exact (Rw.below_alloc _ _).alloc (by simp) _ | refine Below.setCell ?_ (by simp) _)

set_option maxRecDepth 100000 in
set_option maxHeartbeats 1000000 in
theorem nom_del {a : Option Addr} {c : Nat} {tb : ByteArray} (w : World) : Calls Tryz.prog 24 #[dV tb a c, dO tb a c] w fun e W => e = .returned (.bool true) ∧ Below w.heap.size w W := by
  have htt : (tb.toList == tb.toList) = true := by simp
  unfold dV dO
  go_enter Tryz.func24, Tryz.ntmps24
  go_wp2
  go_ret
  exact ⟨rfl, by first | exact (Rw.below_alloc _ _).alloc (by simp) _ | exact Rw.below_alloc _ _⟩

/-- The cells of a Delete. -/
def DC (w W : World) (tb : ByteArray) (a : Option Addr) (c : Nat) : Prop := W.cell? ⟨w.heap.size, 0, none⟩ = some (.int .i64 14) ∧ W.cell? ⟨w.heap.size, 1, none⟩ = some (.string ⟨#[]⟩) ∧ W.cell? ⟨w.heap.size, 2, none⟩ = some (.string tb) ∧ W.cell? ⟨w.heap.size, 3, none⟩ = some (.string ⟨#[]⟩) ∧ W.cell? ⟨w.heap.size, 4, none⟩ = some (.slice none 0 0) ∧ W.cell? ⟨w.heap.size, 5, none⟩ = some (.slice none 0 0) ∧ W.cell? ⟨w.heap.size, 6, none⟩ = some (.slice none 0 0) ∧ W.cell? ⟨w.heap.size, 7, none⟩ = some (.slice a 1 c) ∧ W.cell? ⟨w.heap.size, 8, none⟩ = some (.slice none 0 0) ∧ W.cell? ⟨w.heap.size, 9, none⟩ = some (.slice none 0 0) ∧ W.cell? ⟨w.heap.size, 10, none⟩ = some (.int .i64 0) ∧ W.cell? ⟨w.heap.size, 11, none⟩ = some (.int .i64 0) ∧ W.cell? ⟨w.heap.size, 12, none⟩ = some (.bool false) ∧ W.cell? ⟨w.heap.size, 13, none⟩ = some (.bool false) ∧ W.cell? ⟨w.heap.size, 14, none⟩ = some (.slice none 0 0)
theorem dc_at {w W : World} {tb : ByteArray} {a : Option Addr} {c : Nat} (h : W.heap[w.heap.size]? = some (.cells #[.int .i64 14, .string ⟨#[]⟩, .string tb, .string ⟨#[]⟩, .slice none 0 0, .slice none 0 0, .slice none 0 0, .slice a 1 c, .slice none 0 0, .slice none 0 0, .int .i64 0, .int .i64 0, .bool false, .bool false, .slice none 0 0] 28 (0, 0))) : DC w W tb a c := by
  refine ⟨?_, ?_, ?_, ?_, ?_, ?_, ?_, ?_, ?_, ?_, ?_, ?_, ?_, ?_, ?_⟩ <;> (rw [cell_of_row _ _ _ _ _ _ h]; rfl)

set_option maxRecDepth 100000 in
set_option maxHeartbeats 1000000 in
theorem right_del {x : XL} {a : Option Addr} {c : Nat} {tb : ByteArray} {w : World} (hS : Rw.SlG xC 7 w a [x]) (hI : In 20 w x) (ht : nameB tb = true) :
    Calls Tryz.prog 9 #[dV tb a c] w fun e W => e = .returned (.bool (rightX 20 x)) ∧ Below w.heap.size w W := by
  have HA : Hid (∀ W, Below w.heap.size w W → Calls Tryz.prog 33 #[.agg #[.int .i64 14, .string ⟨#[]⟩, .string tb, .string ⟨#[]⟩, .slice none 0 0, .slice none 0 0, .slice none 0 0, .slice a 1 c, .slice none 0 0, .slice none 0 0, .int .i64 0, .int .i64 0, .bool false, .bool false, .slice none 0 0]] W fun e W' => e = .returned (.bool (rightX 20 x)) ∧ Below W.heap.size W W') := fun W hb => rwh_walk (tb := tb) (c := c) (hS.below hb) (hI.on hb)
  have HN := Rw.dh (fun W => name_walk tb W (by have := nameB_size ht; unfold maxLen; omega))
  rw [ht] at HN
  clear hS hI ht
  generalize rightX 20 x = R at *
  have HO : Hid (∀ W, Calls Tryz.prog 25 #[.agg #[.int .i64 14, .string ⟨#[]⟩, .string tb, .string ⟨#[]⟩, .slice none 0 0, .slice none 0 0, .slice none 0 0, .slice a 1 c, .slice none 0 0, .slice none 0 0, .int .i64 0, .int .i64 0, .bool false, .bool false, .slice none 0 0]] W fun e W' => e = .returned (dO tb a c) ∧ Below W.heap.size W W') := fun W => own_del W
  have HM : Hid (∀ W, Calls Tryz.prog 24 #[.agg #[.int .i64 14, .string ⟨#[]⟩, .string tb, .string ⟨#[]⟩, .slice none 0 0, .slice none 0 0, .slice none 0 0, .slice a 1 c, .slice none 0 0, .slice none 0 0, .int .i64 0, .int .i64 0, .bool false, .bool false, .slice none 0 0], dO tb a c] W fun e W' => e = .returned (.bool true) ∧ Below W.heap.size W W') := fun W => nom_del W
  show Calls Tryz.prog 9 #[.agg #[.int .i64 14, .string ⟨#[]⟩, .string tb, .string ⟨#[]⟩, .slice none 0 0, .slice none 0 0, .slice none 0 0, .slice a 1 c, .slice none 0 0, .slice none 0 0, .int .i64 0, .int .i64 0, .bool false, .bool false, .slice none 0 0]] w _
  go_enter Tryz.func9, Tryz.ntmps9
  go_wp2_with fail
  refine Rw.to_letter (F := fun W => Below w.heap.size w W ∧ w.heap.size < W.heap.size ∧ W.heap[w.heap.size]? = some (.cells #[.int .i64 14, .string ⟨#[]⟩, .string tb, .string ⟨#[]⟩, .slice none 0 0, .slice none 0 0, .slice none 0 0, .slice a 1 c, .slice none 0 0, .slice none 0 0, .int .i64 0, .int .i64 0, .bool false, .bool false, .slice none 0 0] 28 (0, 0))) ⟨Rw.below_alloc _ _, by simp, Rw.heap_new _ _⟩ ?_
  rintro W0 ⟨B0, hlt, P0⟩
  have KS : Hid (∀ W, Below W0.heap.size W0 W → W.cell? ⟨w.heap.size, 0, none⟩ = some (.int .i64 14) ∧ W.cell? ⟨w.heap.size, 1, none⟩ = some (.string ⟨#[]⟩) ∧ W.cell? ⟨w.heap.size, 2, none⟩ = some (.string tb) ∧ W.cell? ⟨w.heap.size, 3, none⟩ = some (.string ⟨#[]⟩) ∧ W.cell? ⟨w.heap.size, 4, none⟩ = some (.slice none 0 0) ∧ W.cell? ⟨w.heap.size, 5, none⟩ = some (.slice none 0 0) ∧ W.cell? ⟨w.heap.size, 6, none⟩ = some (.slice none 0 0) ∧ W.cell? ⟨w.heap.size, 7, none⟩ = some (.slice a 1 c) ∧ W.cell? ⟨w.heap.size, 8, none⟩ = some (.slice none 0 0) ∧ W.cell? ⟨w.heap.size, 9, none⟩ = some (.slice none 0 0) ∧ W.cell? ⟨w.heap.size, 10, none⟩ = some (.int .i64 0) ∧ W.cell? ⟨w.heap.size, 11, none⟩ = some (.int .i64 0) ∧ W.cell? ⟨w.heap.size, 12, none⟩ = some (.bool false) ∧ W.cell? ⟨w.heap.size, 13, none⟩ = some (.bool false) ∧ W.cell? ⟨w.heap.size, 14, none⟩ = some (.slice none 0 0)) := fun W hb => dc_at (by rw [hb.block _ hlt]; exact P0)
  have HO1 : Hid (Calls Tryz.prog 25 #[.agg #[.int .i64 14, .string ⟨#[]⟩, .string tb, .string ⟨#[]⟩, .slice none 0 0, .slice none 0 0, .slice none 0 0, .slice a 1 c, .slice none 0 0, .slice none 0 0, .int .i64 0, .int .i64 0, .bool false, .bool false, .slice none 0 0]] W0.drew fun e w1 => e = .returned (dO tb a c) ∧ Below W0.heap.size W0 w1) := (HO.out W0.drew).mono (by
    rintro e w1 ⟨rfl, hb⟩
    exact ⟨rfl, (Below.refl _ W0).drew.trans (hb.mono (Nat.le_refl _))⟩)
  have HM1 : Hid (∀ w1, Below W0.heap.size W0 w1 → Calls Tryz.prog 24 #[.agg #[.int .i64 14, .string ⟨#[]⟩, .string tb, .string ⟨#[]⟩, .slice none 0 0, .slice none 0 0, .slice none 0 0, .slice a 1 c, .slice none 0 0, .slice none 0 0, .int .i64 0, .int .i64 0, .bool false, .bool false, .slice none 0 0], dO tb a c] w1 fun e w2 => e = .returned (.bool true) ∧ Below W0.heap.size W0 w2) := fun w1 h => (HM.out w1).mono (by
    rintro e w2 ⟨rfl, hb⟩
    exact ⟨rfl, dig_below_on h hb⟩)
  have k0 : Below W0.heap.size W0 W0 := Below.refl _ _
  have k1 : Below W0.heap.size W0 W0.drew := (Below.refl _ _).drew
  clear HO HM
  go_region_held (fun W => W.cell? ⟨w.heap.size, 0, none⟩ = some (.int .i64 14) ∧ W.cell? ⟨w.heap.size, 1, none⟩ = some (.string ⟨#[]⟩) ∧ W.cell? ⟨w.heap.size, 2, none⟩ = some (.string tb) ∧ W.cell? ⟨w.heap.size, 3, none⟩ = some (.string ⟨#[]⟩) ∧ W.cell? ⟨w.heap.size, 4, none⟩ = some (.slice none 0 0) ∧ W.cell? ⟨w.heap.size, 5, none⟩ = some (.slice none 0 0) ∧ W.cell? ⟨w.heap.size, 6, none⟩ = some (.slice none 0 0) ∧ W.cell? ⟨w.heap.size, 7, none⟩ = some (.slice a 1 c) ∧ W.cell? ⟨w.heap.size, 8, none⟩ = some (.slice none 0 0) ∧ W.cell? ⟨w.heap.size, 9, none⟩ = some (.slice none 0 0) ∧ W.cell? ⟨w.heap.size, 10, none⟩ = some (.int .i64 0) ∧ W.cell? ⟨w.heap.size, 11, none⟩ = some (.int .i64 0) ∧ W.cell? ⟨w.heap.size, 12, none⟩ = some (.bool false) ∧ W.cell? ⟨w.heap.size, 13, none⟩ = some (.bool false) ∧ W.cell? ⟨w.heap.size, 14, none⟩ = some (.slice none 0 0)) (exact KS.out _ (by with_reducible assumption)) (first
    | (go_at_call 25; refine HO1.out.mono ?_; rintro e w1 ⟨rfl, k2⟩)
    | (go_at_call 24; refine (HM1.out _ k2).mono ?_; rintro e w2 ⟨rfl, k3⟩))
  obtain ⟨m0, m1, m2, m3, m4, m5, m6, m7, m8, m9, m10, m11, m12, m13, m14⟩ := KS.out w2 k3
  have HB2 := Rw.dh (dig_below_on B0 k3)
  clear k0 k1 k2 k3 KS HO1 HM1 P0
  go_wp2_with (first | (go_at_call 26; refine (HN.out _).mono ?_; rintro e w3 ⟨rfl, rfl⟩) | (go_at_call 33; refine (HA.out _ HB2.out).mono ?_; rintro e w4 ⟨rfl, hb4⟩))
  all_goals
    go_ret
    exact ⟨rfl, dig_below_on HB2.out hb4⟩

end Go.Proofs.YtcgpcigablefhaaGreatDoor
