/-
  ArenaOwns: its walk.
-/
import Derived.Deep.RegionHeld
import Derived.Test.YtcoehlnmaehhjaaArF
namespace Go.Proofs.Ytcoehlnmaehhjaa
open Go.RowKit

def ow0 : Abs := ⟨[], [], 3⟩
def ow1 : Abs := ⟨[some zeroP], [], 3⟩
def ow2 : Abs := ⟨[some zeroP, some zeroP], [], 3⟩
def ow3 (c : List UInt8) : Abs := ⟨[some c, some zeroP], [], 3⟩
def ow4 (c d : List UInt8) : Abs := ⟨[some c, some d], [], 3⟩

def full (x : UInt8) : List UInt8 := List.replicate 1024 x
theorem full_length (x : UInt8) : (full x).length = 1024 := List.length_replicate

/-- A block of bytes: the text is known. -/
def Held (W : World) (b : Nat) (c : List UInt8) : Prop := ∃ t, W.heap[b]? = some (.cells (bcs c).toArray t (0, 0))

theorem Held.below {W W' : World} {b : Nat} {c : List UInt8} (h : Held W b c) (hb : Below W.heap.size W W') : Held W' b c := by
  obtain ⟨t, h⟩ := h
  exact ⟨t, (hb.block b (Array.getElem?_eq_some_iff.1 h).1).trans h⟩

theorem below_drew (w : World) : Below w.heap.size w w.drew := (Below.refl _ _).drew

theorem conv_full (z : UInt8) (W' : World) (b : Nat) (h : Held W' b (full z)) : (convert 40 9 (.slice (some ⟨b, 0, none⟩) 1024 1024)).run Try.prog W' = .ok (.string ⟨(full z).toArray⟩) W' := by
  obtain ⟨t, h⟩ := h
  have := conv_bs h 1024
  rwa [full_length] at this

theorem bytes_held (z : UInt8) (W : World) : Calls Try.prog 17 #[.int .u8 (z.toNat : Int), .int .i64 1024] W fun e w' => ∃ bn, e = .returned (.slice (some ⟨bn, 0, none⟩) 1024 1024) ∧ (∀ b c, Held W b c → Held w' b c) ∧ (convert 40 9 (.slice (some ⟨bn, 0, none⟩) 1024 1024)).run Try.prog w' = .ok (.string ⟨(full z).toArray⟩) w' ∧ Below W.heap.size W w' :=
  (bytes_blk z 1024 (by decide) W).mono fun _ _ ⟨he, hk, hb⟩ => ⟨_, he, fun _ _ h => h.below hb, conv_full z _ _ ⟨_, hk⟩, hb⟩

set_option maxRecDepth 100000 in
set_option maxHeartbeats 1000000 in
theorem owns_walk (x y : UInt8) (w : World) : Calls Try.prog 4 #[.int .u8 (x.toNat : Int), .int .u8 (y.toNat : Int)] w fun e w' => e = .returned (.bool true) ∧ Below w.heap.size w w' := by
  go_enter Try.func4, Try.ntmps4
  go_wp2_with fail
  refine (awake_walk _).mono ?_
  rintro e w1 ⟨rfl, B⟩
  have HB : Hid (Below w.heap.size w w1) := B
  clear B
  go_wp2_with fail
  refine (has_new 3 (by decide) _).mono ?_
  rintro e w2 ⟨p, rfl, H⟩
  have H1 : Hid (Has w1 p ow0 w2) := H
  clear H
  unfold arV
  go_wp2_with fail
  refine (has_alloc H1.out (show 0 < ow0.left by decide)).mono ?_
  rintro e w3 ⟨rfl, H⟩
  have H2 : Hid (Has w1 p ow1 w3) := H
  clear H H1
  rw [show nv ow0.next = .int .i64 1 from rfl]
  go_wp2_with fail
  refine (has_alloc H2.out (show 0 < ow1.left by decide)).mono ?_
  rintro e w4 ⟨rfl, H⟩
  have H3 : Hid (Has w1 p ow2 w4) := H
  clear H H2
  rw [show nv ow1.next = .int .i64 2 from rfl]
  go_wp2_with fail
  refine (bytes_blk x 1024 (by decide) _).mono ?_
  rintro e w5 ⟨rfl, hk, hb⟩
  have HI : Hid (w5.heap[w4.heap.size]? = some (.cells (bcs (full x)).toArray 5 (0, 0))) := hk
  have H4 : Hid (Has w1 p ow2 w5) := H3.out.below hb
  have hin : Hid (w1.heap.size ≤ w4.heap.size) := H3.out.B.size
  clear hb hk H3
  go_wp2_with fail
  refine (has_store_bk H4.out (n := 1) (c := zeroP) rfl (d := full x) (b := w4.heap.size) ⟨by rw [full_length], _, HI.out⟩ (full_length x)).mono ?_
  rintro e w6 ⟨rfl, H, hbk⟩
  have H5 : Hid (Has w1 p (ow3 (full x)) w6) := H
  have HI' : Hid (w6.heap[w4.heap.size]? = some (.cells (bcs (full x)).toArray 5 (0, 0))) := (hbk _ _ HI.out).trans HI.out
  have hc0 : w6.cell? ⟨w4.heap.size, 0, none⟩ = some (.int .u8 (x.toNat : Int)) := by
    rw [cell_of_row _ _ _ _ _ _ HI'.out]; rfl
  have hf0 : w6.frozen? ⟨w4.heap.size, 0, none⟩ = false := frozen_of_row _ _ _ _ _ HI'.out
  clear H hbk H4 HI
  go_wp2_with fail
  have H6 : Hid (Has w1 p (ow3 (full x)) (w6.setCell ⟨w4.heap.size, 0, none⟩ (.int .u8 (((x.toNat : Int) + 1) % 256)))) := H5.out.poke HI'.out hin.out _ _
  clear hc0 hf0 HI' H5
  generalize w6.setCell ⟨w4.heap.size, 0, none⟩ (.int .u8 (((x.toNat : Int) + 1) % 256)) = w7 at *
  refine (has_load_poke H6.out (n := 1) (c := full x) rfl).mono ?_
  rintro e w8 ⟨v, rfl, hv, H⟩
  have HL : Hid (∀ j u, Has w1 p (ow3 (full x)) (w8.setCell ⟨w7.heap.size, j, none⟩ u)) := H
  obtain ⟨rfl, t, hblk⟩ := hv
  have hc1 : w8.cell? ⟨w7.heap.size, 1, none⟩ = some (.int .u8 (x.toNat : Int)) := by
    rw [cell_of_row _ _ _ _ _ _ hblk]; rfl
  have hf1 : w8.frozen? ⟨w7.heap.size, 1, none⟩ = false := frozen_of_row _ _ _ _ _ hblk
  rw [full_length]
  clear H hblk H6
  go_wp2_with fail
  have H7 : Hid (Has w1 p (ow3 (full x)) (w8.setCell ⟨w7.heap.size, 1, none⟩ (.int .u8 (((x.toNat : Int) + 1) % 256)))) := HL.out _ _
  clear hc1 hf1 HL
  generalize w8.setCell ⟨w7.heap.size, 1, none⟩ (.int .u8 (((x.toNat : Int) + 1) % 256)) = w9 at *
  refine (bytes_blk y 1024 (by decide) _).mono ?_
  rintro e w10 ⟨rfl, hk, hb⟩
  have HI : Hid (w10.heap[w9.heap.size]? = some (.cells (bcs (full y)).toArray 5 (0, 0))) := hk
  have H8 : Hid (Has w1 p (ow3 (full x)) w10) := H7.out.below hb
  clear hb hk H7
  go_wp2_with fail
  refine (has_store H8.out (n := 2) (c := zeroP) rfl (d := full y) (b := w9.heap.size) ⟨by rw [full_length], _, HI.out⟩ (full_length y)).mono ?_
  rintro e w11 ⟨rfl, H⟩
  have H9 : Hid (Has w1 p (ow4 (full x) (full y)) w11) := H
  clear H H8 HI
  go_wp2_with fail
  refine (has_load H9.out (n := 1) (c := full x) rfl).mono ?_
  rintro e w12 ⟨v, rfl, hv, H, hb⟩
  have H10 : Hid (Has w1 p (ow4 (full x) (full y)) w12) := H
  obtain ⟨rfl, t1, hblk⟩ := hv
  have K1 : Hid (w12.heap[w11.heap.size]? = some (.cells (bcs (full x)).toArray t1 (0, 0))) := hblk
  rw [full_length]
  clear H hblk H9 hb
  go_wp2_with fail
  refine (has_load H10.out (n := 2) (c := full y) rfl).mono ?_
  rintro e w13 ⟨v, rfl, hv, H, hb⟩
  obtain ⟨rfl, t2, hblk⟩ := hv
  have K2 : Hid (Held w13 w12.heap.size (full y)) := ⟨t2, hblk⟩
  have K3 : Hid (Held w13 w11.heap.size (full x)) := Held.below ⟨t1, K1.out⟩ hb
  have B : Hid (Below w.heap.size w w13) := below_on HB.out H.B
  rw [full_length]
  clear H hblk H10 hb K1 HB hin
  generalize w11.heap.size = b1 at *
  generalize w12.heap.size = b2 at *
  go_wp2_with fail
  obtain ⟨F, hF⟩ : ∃ F, Hid (F = full) := ⟨_, rfl⟩
  obtain ⟨G, hG⟩ : ∃ G : UInt8 → ByteArray, Hid (G = fun z => ⟨(full z).toArray⟩) := ⟨_, rfl⟩
  have hcx : ∀ (W' : World) (b : Nat), Held W' b (F x) → (convert 40 9 (.slice (some ⟨b, 0, none⟩) 1024 1024)).run Try.prog W' = .ok (.string (G x)) W' := fun W' b h => by rw [hG.out]; exact conv_full x W' b (by rw [← hF.out]; exact h)
  have hcy : ∀ (W' : World) (b : Nat), Held W' b (F y) → (convert 40 9 (.slice (some ⟨b, 0, none⟩) 1024 1024)).run Try.prog W' = .ok (.string (G y)) W' := fun W' b h => by rw [hG.out]; exact conv_full y W' b (by rw [← hF.out]; exact h)
  have HC : ∀ (z : UInt8) (W : World), Calls Try.prog 17 #[.int .u8 (z.toNat : Int), .int .i64 1024] W fun e w' => ∃ bn, e = .returned (.slice (some ⟨bn, 0, none⟩) 1024 1024) ∧ (∀ b c, Held W b c → Held w' b c) ∧ (convert 40 9 (.slice (some ⟨bn, 0, none⟩) 1024 1024)).run Try.prog w' = .ok (.string (G z)) w' ∧ Below W.heap.size W w' := by rw [hG.out]; exact bytes_held
  have hdr : ∀ (W : World) (b : Nat) (c : List UInt8), Held W b c → Held W.drew b c := fun W b c h => h
  have k2 : Held w13 b2 (F y) := by rw [hF.out]; exact K2.out
  have k3 : Held w13 b1 (F x) := by rw [hF.out]; exact K3.out
  clear K2 K3
  go_region_held (fun w' => Held w' b1 (F x) ∧ Held w' b2 (F y) ∧ (convert 40 9 (.slice (some ⟨b1, 0, none⟩) 1024 1024)).run Try.prog w' = .ok (.string (G x)) w' ∧ (convert 40 9 (.slice (some ⟨b2, 0, none⟩) 1024 1024)).run Try.prog w' = .ok (.string (G y)) w') (simp [*]) (first | (go_at_call 17; refine (HC _ _).mono ?_; rintro e w2 ⟨bn, rfl, hh, hn, hb⟩))
  have HB : Hid (Below w.heap.size w w2) := below_on (below_on (below_on B.out (below_drew _)) (by assumption)) hb
  clear hh hn hb hcx hcy HC hdr k2 k3
  go_wp2
  go_ret
  exact ⟨rfl, HB.out⟩
end Go.Proofs.Ytcoehlnmaehhjaa
