/-
  Numbers are read out of blocks of bytes.
-/
import Derived.Laws.BitsAllLaws
import Derived.Test.YtjdbjnkmlajdoaaGreatNdH
namespace Go.Proofs.YtjdbjnkmlajdoaaGreat.L5
open Go.RowKit

/-- The number that bytes write, the highest first. -/
def numL (l : List UInt8) : Nat := l.foldl (fun n c => n * 256 + c.toNat) 0

theorem numL_snoc (l : List UInt8) (x : UInt8) : numL (l ++ [x]) = numL l * 256 + x.toNat := by simp [numL]

theorem numL_lt (l : List UInt8) : ∀ x : Nat, l.foldl (fun n c => n * 256 + c.toNat) x < (x + 1) * 256 ^ l.length := by
  induction l with
  | nil => intro x; simp
  | cons c l ih =>
    intro x
    have h := ih (x * 256 + c.toNat)
    have hc := c.toNat_lt
    rw [List.foldl_cons, List.length_cons, Nat.pow_succ]
    refine Nat.lt_of_lt_of_le h ?_
    rw [Nat.mul_comm (256 ^ l.length) 256, ← Nat.mul_assoc]
    exact Nat.mul_le_mul_right _ (by omega)

theorem i64_or_nat (a b : Nat) (ha : a < 9223372036854775808) (hb : b < 9223372036854775808) : bits .or .i64 (a : Int) (b : Int) = ((a ||| b : Nat) : Int) := by
  have hx : a ||| b < 2 ^ 63 := Nat.or_lt_two_pow (by omega) (by omega)
  show IntKind.i64.wrap ((BitVec.ofInt 64 (a : Int) ||| BitVec.ofInt 64 (b : Int)).toNat : Int) = _
  rw [BitVec.toNat_or, ofInt_u64 a (by omega), ofInt_u64 b (by omega), IntKind.wrap_i64]
  omega

theorem cut_snoc (L : List UInt8) (o j : Nat) (h : o + j < L.length) : cut L o (j + 1) = cut L o j ++ [L[o + j]] := by
  unfold cut
  rw [List.take_succ_eq_append_getElem (by simp; omega)]
  simp

theorem cut_length (L : List UInt8) (o j : Nat) (h : o + j ≤ L.length) : (cut L o j).length = j := by
  unfold cut
  simp; omega

set_option maxRecDepth 100000 in
set_option maxHeartbeats 400000 in
theorem number_walk {b o m cap : Nat} {L : List UInt8} {w : World} (hb : RBlk w b L) (hm : m ≤ 4) (hl : o + m ≤ L.length) :
    Calls Tryz.prog 146 #[.slice (some ⟨b, o, none⟩) m cap] w fun e w' => e = .returned (.int .i64 (numL (cut L o m) : Int)) ∧ Below w.heap.size w w' := by
  have HB : Hid (RBlk w b L) := hb
  clear hb
  go_enter Tryz.func146, Tryz.ntmps146
  go_wp2
  go_loopw [3, 8] (fun n i wr => ∃ j : Nat, j ≤ m ∧ i = .int .i64 (j : Int) ∧ n = .int .i64 (numL (cut L o j) : Int) ∧ Hid (Below w.heap.size w wr)) (fun _ i _ => m - (intOf i).toNat)
  case atStart => exact ⟨0, Nat.zero_le _, rfl, rfl, Below.refl _ _⟩
  case round =>
    obtain ⟨j, hj, rfl, rfl, HO⟩ := hrel
    by_cases hlt : j < m
    · have hB : RBlk wr b L := (HO.out.block b HB.out.lt).trans HB.out
      have hc := hB.cell (o + j) (by omega)
      clear hB
      have hlt' : (j : Int) < (m : Int) := by omega
      have hj0 : (0 : Int) ≤ (j : Int) := by omega
      go_wp2
      have hlo := numL_lt (cut L o j) 0
      rw [cut_length L o j (by omega)] at hlo
      have hlo' : numL (cut L o j) < 256 ^ 3 := Nat.lt_of_lt_of_le (by simpa [numL] using hlo) (Nat.pow_le_pow_right (by decide) (by omega))
      have hx := (L[o + j]).toNat_lt
      have hv : bits .or .i64 (wrap64 ((numL (cut L o j) : Int) * 256)) (wrap64 (L[o + j].toNat : Int)) = (numL (cut L o (j + 1)) : Int) := by
        rw [cut_snoc L o j (by omega), numL_snoc]
        generalize numL (cut L o j) = p at hlo' ⊢
        generalize (L[o + j]).toNat = q at hx ⊢
        have e1 : wrap64 ((p : Int) * 256) = ((p * 256 : Nat) : Int) := by unfold wrap64; omega
        have e2 : wrap64 (q : Int) = (q : Int) := by unfold wrap64; omega
        rw [e1, e2, i64_or_nat _ _ (by omega) (by omega), nat_join 8 (p * 256) q (by omega) (by omega)]
      rw [hv]
      exact ⟨⟨j + 1, by omega, by go_num, rfl, HO⟩, by simp [intOf]; omega⟩
    · have hlt' : (m : Int) ≤ (j : Int) := by omega
      have hjm : j = m := by omega
      subst hjm
      go_wp2
      go_ret
      exact ⟨rfl, HO.out⟩
end Go.Proofs.YtjdbjnkmlajdoaaGreat.L5
