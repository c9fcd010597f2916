/-
  The document's number: bytes of a number, the highest first.
-/
import Derived.Test.YtpmagonmfaaihaaNdH
namespace Go.Proofs.Ytpmagonmfaaihaa
open Go.RowKit

theorem hidf {p : Prop} (h : p) : Hid p := h

theorem over_whole (L t : List UInt8) (h : t.length = L.length) : over L 0 t = t := by
  unfold over
  rw [Nat.zero_add, h]
  simp

theorem made_bytes (W : World) (m : Nat) : Blk (W.alloc (.cells (madeCells #[.int .u8 0] m) 5)) W.heap.size (List.replicate m 0) := by
  have e : (madeCells #[.int .u8 0] m : Array Value) = (bcs (List.replicate m 0)).toArray := by
    apply Array.ext'
    rw [toList_madeCells_one, List.toList_toArray]
    unfold bcs
    rw [List.map_replicate]
    rfl
  unfold Blk
  rw [← e]
  exact heap_alloc_last _ _

set_option maxRecDepth 100000 in
set_option maxHeartbeats 400000 in
theorem refnum_walk {n m : Nat} {w : World} (hm : m ≤ 4) (hn : n < 9223372036854775808) :
    Calls Try.prog 25 #[.int .i64 (n : Int), .int .i64 (m : Int)] w fun e w' => ∃ p, e = .returned (.slice (some ⟨p, 0, none⟩) m m) ∧ w.heap.size ≤ p ∧ Blk w' p (be n m) ∧ Below w.heap.size w w' := by
  go_enter Try.func25, Try.ntmps25
  go_wp2
  have hmk : (Instr.makeSlice 31 (.int .i64 (m : Int)) (.int .i64 (m : Int))).run Try.prog w = .ok (.slice (some ⟨w.heap.size, 0, none⟩) m m) (w.alloc (.cells (madeCells #[.int .u8 0] m) 5)) :=
    run_make_row' 31 5 (.int .u8 0) 1 Try.underlying31 (by kernel_rfl) rfl .i64 .i64 m (by omega) (by omega) w
  rw [hmk]
  clear hmk
  have H0 := hidf (made_bytes w m)
  have HB := hidf (below_alloc w (.cells (madeCells #[.int .u8 0] m) 5))
  generalize w.alloc (.cells (madeCells #[.int .u8 0] m) 5) = w1 at H0 HB ⊢
  go_wp2
  go_loopw [0, 6] (fun q i wr => ∃ j : Nat, j ≤ m ∧ i = .int .i64 ((m : Int) - 1 - (j : Int)) ∧ q = .int .i64 ((n / 256 ^ j : Nat) : Int) ∧ Hid (Blk wr w.heap.size (over (List.replicate m 0) (m - j) (be n j))) ∧ Hid (Below w.heap.size w wr)) (fun _ i _ => (intOf i + 1).toNat)
  case atStart => exact ⟨0, Nat.zero_le _, by go_num, by simp, by show Blk _ _ _; rw [show be n 0 = [] from rfl, over_nil]; exact H0.out, HB⟩
  case round =>
    obtain ⟨j, hj, rfl, rfl, HK, HO⟩ := hrel
    by_cases hlt : j < m
    · have hle := over_length (List.replicate m 0) (m - j) (be n j) (by rw [be_length]; simp; omega)
      obtain ⟨old, hc⟩ : ∃ old, wr.cell? ⟨w.heap.size, m - 1 - j, none⟩ = some (Value.int .u8 old) := ⟨_, HK.out.cell (m - 1 - j) (by rw [hle]; simp; omega)⟩
      have hf := HK.out.frozen (m - 1 - j)
      have hx : ((m : Int) - 1 - (j : Int)).toNat = m - 1 - j := by omega
      have hx1 : (0 : Int) ≤ (m : Int) - 1 - (j : Int) := by omega
      have hx2 : (m : Int) - 1 - (j : Int) < (m : Int) := by omega
      have hqq : n / 256 ^ j ≤ n := Nat.div_le_self _ _
      have HQ : Hid (n / 256 ^ j / 256 = n / 256 ^ (j + 1)) := by show _ = _; rw [Nat.div_div_eq_div_mul, Nat.pow_succ]
      have HV : Hid ((UInt8.ofNat (n / 256 ^ j)).toNat = n / 256 ^ j % 256) := ofNat_toNat _
      generalize hq : n / 256 ^ j = q at hqq HQ HV ⊢
      clear hle
      go_wp2
      have hv : Value.int .u8 ((q : Int) % 256) = .int .u8 ((UInt8.ofNat q).toNat : Int) := by rw [HV.out]; simp
      rw [hv]
      have ht := HK.out.set (m - 1 - j) (UInt8.ofNat q)
      have hs := over_set (List.replicate m 0) 0 m j n hlt (by simp)
      rw [Nat.zero_add, hq] at hs
      rw [hs] at ht
      refine ⟨⟨j + 1, by omega, by go_num, by rw [← HQ.out]; simp, ht, HO.out.setCell (Nat.le_refl _) _⟩, ?_⟩
      simp only [intOf]
      omega
    · have hjm : j = m := by omega
      subst hjm
      have hx1 : (j : Int) - 1 - (j : Int) < 0 := by omega
      go_wp2
      go_ret
      refine ⟨_, rfl, Nat.le_refl _, ?_, HO.out⟩
      have := HK.out
      rwa [Nat.sub_self, over_whole _ _ (by rw [be_length]; simp)] at this
end Go.Proofs.Ytpmagonmfaaihaa
