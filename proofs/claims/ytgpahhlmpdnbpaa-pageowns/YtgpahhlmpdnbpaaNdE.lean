/-
  Blocks of bytes that are written into: one byte, several; put.
-/
import Derived.Lib.LazyBuf
import Derived.Test.YtgpahhlmpdnbpaaNdD
import Derived.Test.YtgpahhlmpdnbpaaPageL
namespace Go.Proofs.Ytgpahhlmpdnbpaa
open Go.RowKit

/-- The block b is these bytes. -/
def Blk (W : World) (b : Nat) (L : List UInt8) : Prop := W.heap[b]? = some (.cells (bcs L).toArray 5 (0, 0))

theorem bcs_set (L : List UInt8) (i : Nat) (x : UInt8) : (bcs L).set i (.int .u8 (x.toNat : Int)) = bcs (L.set i x) := by
  unfold bcs; rw [List.map_set]

theorem Blk.set {W : World} {b : Nat} {L : List UInt8} (h : Blk W b L) (i : Nat) (x : UInt8) : Blk (W.setCell ⟨b, i, none⟩ (.int .u8 (x.toNat : Int))) b (L.set i x) := by
  unfold Blk at h ⊢
  rw [Go.heap_setCell_same W b i _ _ _ h, List.setIfInBounds_toArray, bcs_set]

theorem Blk.cell {W : World} {b : Nat} {L : List UInt8} (h : Blk W b L) (i : Nat) (hi : i < L.length) : W.cell? ⟨b, i, none⟩ = some (.int .u8 (L[i].toNat : Int)) := by
  rw [cell_of_row _ _ _ _ _ _ h]
  simp [bcs, hi]

theorem Blk.frozen {W : World} {b : Nat} {L : List UInt8} (h : Blk W b L) (i : Nat) : W.frozen? ⟨b, i, none⟩ = false := frozen_of_row _ _ _ _ _ h

theorem Blk.lt {W : World} {b : Nat} {L : List UInt8} (h : Blk W b L) : b < W.heap.size := (Array.getElem?_eq_some_iff.1 h).1

theorem Blk.keep {W W' : World} {b : Nat} {L : List UInt8} {S : Nat → Prop} (h : Blk W b L) (ho : Only S W W') (hs : ¬ S b) : Blk W' b L := (ho.block b h.lt hs).trans h

/-- The block b is these bytes, as a page that is read lies (of an arena: an array). -/
def RBlk (W : World) (b : Nat) (L : List UInt8) : Prop := W.heap[b]? = some (.cells (bcs L).toArray 5 (0, 0))

theorem RBlk.cell {W : World} {b : Nat} {L : List UInt8} (h : RBlk W b L) (i : Nat) (hi : i < L.length) : W.cell? ⟨b, i, none⟩ = some (.int .u8 (L[i].toNat : Int)) := by
  rw [cell_of_row _ _ _ _ _ _ h]
  simp [bcs, hi]

theorem RBlk.frozen {W : World} {b : Nat} {L : List UInt8} (h : RBlk W b L) (i : Nat) : W.frozen? ⟨b, i, none⟩ = false := frozen_of_row _ _ _ _ _ h

theorem RBlk.lt {W : World} {b : Nat} {L : List UInt8} (h : RBlk W b L) : b < W.heap.size := (Array.getElem?_eq_some_iff.1 h).1

/-- Bytes laid over others. -/
def over (L : List UInt8) (o : Nat) (t : List UInt8) : List UInt8 := L.take o ++ t ++ L.drop (o + t.length)

theorem over_length (L : List UInt8) (o : Nat) (t : List UInt8) (h : o + t.length ≤ L.length) : (over L o t).length = L.length := by
  unfold over; simp; omega

theorem over_cons (L : List UInt8) (o : Nat) (x : UInt8) (t : List UInt8) (h : o + (t.length + 1) ≤ L.length) : over (L.set o x) (o + 1) t = over L o (x :: t) := by
  unfold over
  have e1 : (L.set o x).take (o + 1) = L.take o ++ [x] := by
    rw [List.take_succ_eq_append_getElem (by simp; omega), List.take_set_of_le (Nat.le_refl _)]
    simp
  have e2 : (L.set o x).drop (o + 1 + t.length) = L.drop (o + (x :: t).length) := by
    rw [List.drop_set_of_lt (by omega)]
    congr 1
    simp; omega
  rw [e1, e2]
  simp

theorem over_nil (L : List UInt8) (o : Nat) : over L o [] = L := by simp [over]

theorem Blk.setCells {b : Nat} : ∀ (t : List UInt8) (o : Nat) {W : World} {L : List UInt8}, Blk W b L → o + t.length ≤ L.length → Blk (W.setCells b o (bcs t)) b (over L o t)
  | [], o, W, L, h, _ => by rw [over_nil]; exact h
  | x :: t, o, W, L, h, hl => by
    rw [← over_cons L o x t (by simpa using hl)]
    exact Blk.setCells t (o + 1) (h.set o x) (by simp at hl ⊢; omega)

theorem only_setCells {S : Nat → Prop} {b : Nat} {a : World} (hb : a.heap.size ≤ b ∨ S b) : ∀ (vs : List Value) (o : Nat) (w : World), Only S a w → Only S a (w.setCells b o vs)
  | [], _, _, h => h
  | v :: r, o, _, h => only_setCells hb r (o + 1) _ (h.setCell hb v)

/-- The last i bytes of a number, the highest first. -/
def be (n : Nat) : Nat → List UInt8
  | 0 => []
  | i + 1 => UInt8.ofNat (n / 256 ^ i) :: be n i

theorem be_length (n i : Nat) : (be n i).length = i := by
  induction i with
  | zero => rfl
  | succ i ih => simp [be, ih]

theorem be_two (n : Nat) : be n 2 = n2 n := by simp [be, n2]
theorem be_four (n : Nat) : be n 4 = n4 n := by simp [be, n4]

theorem over_set (L : List UInt8) (o m i n : Nat) (hi : i < m) (hl : o + m ≤ L.length) : (over L (o + m - i) (be n i)).set (o + m - 1 - i) (UInt8.ofNat (n / 256 ^ i)) = over L (o + m - (i + 1)) (be n (i + 1)) := by
  unfold over
  rw [be_length, be_length]
  have e1 : o + m - i + i = o + m := by omega
  have e2 : o + m - (i + 1) + (i + 1) = o + m := by omega
  rw [e1, e2]
  have e3 : L.take (o + m - i) = L.take (o + m - (i + 1)) ++ [L[o + m - (i + 1)]'(by omega)] := by
    rw [← List.take_succ_eq_append_getElem (by omega)]
    congr 1
    omega
  rw [e3, show o + m - 1 - i = o + m - (i + 1) by omega]
  have hl : (L.take (o + m - (i + 1))).length = o + m - (i + 1) := by simp; omega
  rw [List.append_assoc, List.append_assoc, List.append_assoc, List.set_append_right _ _ (by omega), hl, Nat.sub_self]
  simp [be]

set_option maxRecDepth 100000 in
set_option maxHeartbeats 400000 in
theorem put_walk {b o m cap n : Nat} {L : List UInt8} {w : World} (hb : Blk w b L) (hm : m ≤ 4) (hl : o + m ≤ L.length) :
    Calls Try.prog 30 #[.slice (some ⟨b, o, none⟩) m cap, .int .i64 (n : Int)] w fun e w' => e = .returned (.tuple #[]) ∧ Blk w' b (over L o (be n m)) ∧ Only (fun k => k = b) w w' := by
  go_enter Try.func30, Try.ntmps30
  go_wp2
  go_loopw [7] (fun i wr => ∃ j : Nat, j ≤ m ∧ i = .int .i64 (j : Int) ∧ Hid (Blk wr b (over L (o + m - j) (be n j))) ∧ Hid (Only (fun k => k = b) w wr)) (fun i _ => m - (intOf i).toNat)
  case atStart => exact ⟨0, Nat.zero_le _, rfl, by show Blk _ _ _; rw [show be n 0 = [] from rfl, over_nil]; exact hb, Only.refl _ _⟩
  case round =>
    obtain ⟨j, hj, rfl, HK, HO⟩ := hrel
    by_cases hlt : j < m
    · have hle := over_length L (o + m - j) (be n j) (by rw [be_length]; omega)
      have hc := HK.out.cell (o + (m - 1 - j)) (by omega)
      have hf := HK.out.frozen (o + (m - 1 - j))
      have hlt' : (j : Int) < (m : Int) := by omega
      have hx : ((m : Int) - 1 - (j : Int)).toNat = m - 1 - j := by omega
      have hx1 : (0 : Int) ≤ (m : Int) - 1 - (j : Int) := by omega
      have hx2 : (m : Int) - 1 - (j : Int) < (m : Int) := by omega
      go_wp2
      have hv : Value.int .u8 ((n : Int) / 2 ^ (8 * j) % 256) = .int .u8 ((UInt8.ofNat (n / 256 ^ j)).toNat : Int) := by
        rw [ofNat_toNat, show (256 : Nat) ^ j = 2 ^ (8 * j) from (Nat.pow_mul 2 8 j).symm]
        simp
      rw [hv]
      refine ⟨⟨j + 1, by omega, by go_num, ?_, HO.out.setCell (Or.inr rfl) _⟩, by simp [intOf]; omega⟩
      have := HK.out.set (o + (m - 1 - j)) (UInt8.ofNat (n / 256 ^ j))
      rw [show o + (m - 1 - j) = o + m - 1 - j by omega, over_set L o m j n hlt hl] at this
      rw [show o + (m - 1 - j) = o + m - 1 - j by omega]
      exact this
    · have hlt' : (m : Int) ≤ (j : Int) := by omega
      have hjm : j = m := by omega
      subst hjm
      go_wp2
      go_end0
      exact ⟨rfl, by have := HK.out; rwa [show o + j - j = o by omega] at this, HO.out⟩
end Go.Proofs.Ytgpahhlmpdnbpaa
