/-
  The document's numerals: Digits.
-/
import Derived.Test.YtenpmialamffmaaDoorValueE
import Derived.Test.YtenpmialamffmaaDoorShowLaws
import Derived.Deep.RegionWith
import Derived.Laws.IdiomStrings
namespace Go.Proofs.YtenpmialamffmaaDoor
open Go.RowKit

theorem conv1 (W : World) (b : Nat) (d : UInt8) (h : W.cell? ⟨b, 0, none⟩ = some (.int .u8 (d.toNat : Int))) :
    (convert 47 9 (.slice (some ⟨b, 0, none⟩) 1 1)).run Tryd.prog W = .ok (.string ⟨#[d]⟩) W :=
  run_convert_bytes_back W 47 9 5 ⟨b, 0, none⟩ 1 [d] Tryd.underlying47 Tryd.underlying5 Tryd.underlying9 (fun j hj => by
    have : j = 0 := by simpa using hj
    subst this
    exact h)

theorem dig_below_on {a b c : World} (h : Below a.heap.size a b) (k : Below b.heap.size b c) : Below a.heap.size a c := h.trans (k.mono h.size)

theorem dec_len (k : Nat) : ∀ u, u < 10 ^ (k + 1) → (Lib.decDigits u).length ≤ k + 1 := by
  induction k with
  | zero =>
    intro u h
    rw [Lib.decDigits, dif_pos (by simpa using h)]
    exact Nat.le_refl _
  | succ k ih =>
    intro u h
    rw [Lib.decDigits]
    split
    · simp
    · rw [List.length_append]
      have : u / 10 < 10 ^ (k + 1) := by
        rw [Nat.pow_succ] at h
        exact Nat.div_lt_of_lt_mul (by rw [Nat.mul_comm]; exact h)
      have := ih (u / 10) this
      simp only [List.length_singleton]
      omega

set_option maxRecDepth 100000 in
theorem digits_small (u : Nat) (h : u < 10) (w : World) :
    Calls Tryd.prog 23 #[.int .i64 u] w fun e w' => e = .returned (.string ⟨(Lib.decDigits u).toArray⟩) ∧ Below w.heap.size w w' := by
  have b0 : ((u : Int) == -9223372036854775808) = false := by
    rw [beq_eq_false_iff_ne]; omega
  go_enter Tryd.func23, Tryd.ntmps23
  have hd := dig_toNat u h
  go_wp2
  rw [conv1 _ _ (UInt8.ofNat (48 + u)) (by rw [hd]; simp [go_sem])]
  go_wp2
  go_ret
  exact ⟨by rw [Lib.decDigits_one h]; simp, below_alloc _ _⟩

theorem below_drew2 (w : World) : Below w.heap.size w w.drew := (Below.refl _ _).drew

theorem wrap_i64 (x : Int) : IntKind.i64.wrap x = (x + 9223372036854775808) % 18446744073709551616 - 9223372036854775808 := by
  simp only [IntKind.wrap, IntKind.bits, IntKind.signed]
  simp
  omega

theorem dig_bcell {W w1 : World} (hb : Below W.heap.size W w1) : (∀ b o, b < W.heap.size → w1.cell? ⟨b, o, none⟩ = W.cell? ⟨b, o, none⟩) ∧ (∀ b o, b < W.heap.size → w1.frozen? ⟨b, o, none⟩ = W.frozen? ⟨b, o, none⟩) :=
  ⟨fun b o h => hb.cell (p := ⟨b, o, none⟩) h, fun b o h => hb.frozen (p := ⟨b, o, none⟩) h⟩

set_option maxRecDepth 1000000 in
set_option maxHeartbeats 2000000 in
theorem digits_step (u : Nat) (h10 : 10 ≤ u) (hu : u < 9223372036854775808) (IH : ∀ w, Calls Tryd.prog 23 #[.int .i64 ((u : Int) / 10)] w fun e w' => e = .returned (.string ⟨(Lib.decDigits (u / 10)).toArray⟩) ∧ Below w.heap.size w w') (w : World) :
    Calls Tryd.prog 23 #[.int .i64 u] w fun e w' => e = .returned (.string ⟨(Lib.decDigits u).toArray⟩) ∧ Below w.heap.size w w' := by
  have b0 : ((u : Int) == -9223372036854775808) = false := by
    rw [beq_eq_false_iff_ne]; omega
  have hd := dig_toNat (u % 10) (by omega)
  have hcv : ∀ (W' : World) (b : Nat), W'.cell? ⟨b, 0, none⟩ = some (.int .u8 (48 + (u : Int) % 10)) → (convert 47 9 (.slice (some ⟨b, 0, none⟩) 1 1)).run Tryd.prog W' = .ok (.string ⟨#[UInt8.ofNat (48 + u % 10)]⟩) W' := fun W' b h => conv1 W' b (UInt8.ofNat (48 + u % 10)) (by rw [hd, h]; rfl)
  have HX : Hid ((⟨(Lib.decDigits u).toArray⟩ : ByteArray) = (⟨(Lib.decDigits (u / 10)).toArray⟩ : ByteArray) ++ ⟨#[UInt8.ofNat (48 + u % 10)]⟩) := by
    show _ = _
    rw [Lib.decDigits, dif_neg (by omega)]
    apply ByteArray.ext
    simp
  have hz : (⟨(Lib.decDigits (u / 10)).toArray⟩ : ByteArray).size ≤ 30 := by
    show (Lib.decDigits (u / 10)).length ≤ 30
    exact dec_len 29 (u / 10) (by
      have : (10 : Nat) ^ 30 = 1000000000000000000000000000000 := by decide
      rw [this]; omega)
  have hui : u ≤ 9223372036854775807 := by omega
  clear hd hu
  generalize (⟨(Lib.decDigits (u / 10)).toArray⟩ : ByteArray) = x at *
  generalize UInt8.ofNat (48 + u % 10) = d at *
  have HI : Hid (∀ w, Calls Tryd.prog 23 #[.int .i64 ((u : Int) / 10)] w fun e w' => e = .returned (.string x) ∧ Below w.heap.size w w') := IH
  have HC : Hid (∀ (W' : World) (b : Nat), W'.cell? ⟨b, 0, none⟩ = some (.int .u8 (48 + (u : Int) % 10)) → (convert 47 9 (.slice (some ⟨b, 0, none⟩) 1 1)).run Tryd.prog W' = .ok (.string ⟨#[d]⟩) W') := hcv
  clear IH hcv
  go_enter Tryd.func23, Tryd.ntmps23
  go_wp2
  have q1 : IntKind.i64.wrap ((u : Int) / 10) = (u : Int) / 10 := by rw [wrap_i64]; omega
  have q2 : (u : Int).tmod 10 = (u : Int) % 10 := Int.tmod_eq_emod_of_nonneg (by omega)
  have q3 : IntKind.i64.wrap (48 + (u : Int) % 10) = 48 + (u : Int) % 10 := by rw [wrap_i64]; omega
  have q4 : IntKind.u8.wrap (48 + (u : Int) % 10) = 48 + (u : Int) % 10 := by simp only [IntKind.wrap, IntKind.bits, IntKind.signed]; simp; omega
  clear b0 hui
  have hcv := HC.out
  go_region_with (go_at_call 23; refine (HI.out _).mono ?_; rintro e w2 ⟨rfl, hb⟩; obtain ⟨hc, hff⟩ := dig_bcell hb)
  all_goals
    first
      | (exfalso; omega)
      | (have hx : Below w.heap.size w w2 := by
           first
             | exact (below_drew2 w).trans (hb.mono (Nat.le_refl _))
             | exact (below_alloc w _).drew.trans (hb.mono (by show w.heap.size ≤ (w.alloc _).heap.size; simp))
         clear hb hc hff hcv q1 q2 q3 q4
         go_wp2
         go_ret
         refine ⟨?_, ?_⟩
         · rw [HX.out]
           rfl
         · first
             | exact hx
             | exact dig_below_on hx (below_alloc _ _))

theorem digits_nat (u : Nat) : u < 9223372036854775808 → ∀ w, Calls Tryd.prog 23 #[.int .i64 u] w fun e w' => e = .returned (.string ⟨(Lib.decDigits u).toArray⟩) ∧ Below w.heap.size w w' := by
  induction u using Nat.strongRecOn with
  | ind u ih =>
    intro hu w
    by_cases h : u < 10
    · exact digits_small u h w
    · have := ih (u / 10) (by omega) (by omega)
      exact digits_step u (by omega) hu (fun w => by
        have e : ((u / 10 : Nat) : Int) = (u : Int) / 10 := by omega
        rw [← e]; exact this w) w

theorem dec_step {u : Nat} (h : 10 ≤ u) : Lib.decDigits u = Lib.decDigits (u / 10) ++ [UInt8.ofNat (48 + u % 10)] := by
  rw [Lib.decDigits, dif_neg (by omega)]

theorem itoa_bottom : Lib.itoa (-9223372036854775808) = [45, 57, 50, 50, 51, 51, 55, 50, 48, 51, 54, 56, 53, 52, 55, 55, 53, 56, 48, 56] := by
  have e : Lib.itoa (-9223372036854775808) = 45 :: Lib.decDigits 9223372036854775808 := by
    unfold Lib.itoa
    rw [if_pos (by decide)]
    simp
  rw [e]
  simp [Lib.decDigits]

set_option maxRecDepth 100000 in
set_option maxHeartbeats 1000000 in
theorem digits_walk (n : Int) (hn : fits n = true) (w : World) :
    Calls Tryd.prog 23 #[.int .i64 n] w fun e w' => e = .returned (.string ⟨(Lib.itoa n).toArray⟩) ∧ Below w.heap.size w w' := by
  rw [fits_iff] at hn
  by_cases h0 : 0 ≤ n
  · obtain ⟨u, rfl⟩ : ∃ u : Nat, n = u := ⟨n.toNat, by omega⟩
    have e : Lib.itoa (u : Int) = Lib.decDigits u := by
      unfold Lib.itoa
      rw [if_neg (by omega)]
      simp
    rw [e]
    exact digits_nat u (by omega) w
  · by_cases hb : n = -9223372036854775808
    · subst hb
      go_enter Tryd.func23, Tryd.ntmps23
      go_wp2
      go_ret
      refine ⟨?_, Below.refl _ _⟩
      rw [itoa_bottom]
      rfl
    · obtain ⟨u, rfl⟩ : ∃ u : Nat, n = -(u : Int) := ⟨n.natAbs, by omega⟩
      have e : Lib.itoa (-(u : Int)) = 45 :: Lib.decDigits u := by
        unfold Lib.itoa
        rw [if_pos (by omega)]
        simp
      have b0 : ((-(u : Int)) == -9223372036854775808) = false := by rw [beq_eq_false_iff_ne]; omega
      have hneg : -(u : Int) < 0 := by omega
      have HD : Hid _ := digits_nat u (by omega)
      have hz : (⟨(Lib.decDigits u).toArray⟩ : ByteArray).size ≤ 30 := by
        show (Lib.decDigits u).length ≤ 30
        exact dec_len 29 u (by
          have : (10 : Nat) ^ 30 = 1000000000000000000000000000000 := by decide
          rw [this]; omega)
      have HQ : Hid (wrap64 (u : Int) = (u : Int)) := by
        show _ = _
        unfold wrap64; omega
      have HX : Hid ((⟨(45 :: Lib.decDigits u).toArray⟩ : ByteArray) = ⟨#[45]⟩ ++ ⟨(Lib.decDigits u).toArray⟩) := by
        show _ = _
        apply ByteArray.ext
        simp
      rw [e]
      clear e hb h0 hn
      generalize (⟨(Lib.decDigits u).toArray⟩ : ByteArray) = x at *
      generalize (⟨(45 :: Lib.decDigits u).toArray⟩ : ByteArray) = y at *
      go_enter Tryd.func23, Tryd.ntmps23
      go_wp2_with fail
      rw [HQ.out]
      refine (HD.out _).mono ?_
      rintro e w1 ⟨rfl, hb⟩
      go_wp2
      go_ret
      refine ⟨?_, hb⟩
      rw [HX.out]
      rfl
end Go.Proofs.YtenpmialamffmaaDoor
