/-
  The document's eight bytes of a number, and the number of eight bytes.
-/
import Derived.Test.YtedlohapoafkjaaDoorCodeB
namespace Go.Proofs.YtedlohapoafkjaaDoor
open Go.RowKit

set_option maxRecDepth 100000 in
set_option maxHeartbeats 400000 in
theorem eight_walk (u : Nat) (hu : u < 18446744073709551616) (w : World) :
    Calls Tryd.prog 37 #[.int .u64 (u : Int)] w fun e w' => e = .returned (.string (strB (beL 8 u))) ∧ Below w.heap.size w w' := by
  go_enter Tryd.func37, Tryd.ntmps37
  go_wp2
  have hmk : (Instr.makeSlice 58 (.int .i64 8) (.int .i64 8)).run Tryd.prog w = .ok (.slice (some ⟨w.heap.size, 0, none⟩) 8 8) (w.alloc (.cells (madeCells #[.int .u8 0] 8) 5)) :=
    run_make_row' 58 5 (.int .u8 0) 1 Tryd.underlying58 (by kernel_rfl) rfl .i64 .i64 8 (by decide) (by decide) w
  rw [hmk]
  clear hmk
  go_wp2
  go_loopw [0, 4] (fun n i wr => ((i = .int .i64 (-1) ∧ Hid (wr.rowIs w.heap.size 5 8 (fun t => byteV u t))) ∨ ∃ j : Nat, j < 8 ∧ i = .int .i64 (j : Int) ∧ n = .int .u64 ((u / 256 ^ (7 - j) : Nat) : Int) ∧ Hid (wr.rowIs w.heap.size 5 8 (fun t => if j < t then byteV u t else .int .u8 0))) ∧ Below w.heap.size w wr) (fun _ i _ => (intOf i + 1).toNat)
  case atStart =>
    refine ⟨Or.inr ⟨7, by decide, rfl, by simp, ?_⟩, below_alloc _ _⟩
    exact (World.rowIs_made w (.int .u8 0) 8 5).congr fun i hi => by rw [if_neg (by omega)]
  case round =>
    obtain ⟨hrel, B⟩ := hrel
    have HB : Hid _ := B
    clear B
    rcases hrel with ⟨rfl, HT⟩ | ⟨j, hj, rfl, rfl, HT⟩
    · go_wp2
      rw [conv8 _ w.heap.size u (fun t ht => World.rowIs.cell HT.out ht)]
      go_wp2
      go_ret
      exact ⟨rfl, HB.out⟩
    · have hc := World.rowIs.cell HT.out hj
      have hf := World.rowIs.frozen HT.out j
      have hlt : u / 256 ^ (7 - j) < 18446744073709551616 := Nat.lt_of_le_of_lt (Nat.div_le_self _ _) hu
      have hd : Hid (u / 256 ^ (7 - j) / 256 = u / 256 ^ (7 - j + 1)) := by
        show _ = _
        rw [Nat.div_div_eq_div_mul, Nat.pow_succ]
      have hx : Hid (byteV u j = .int .u8 (((u / 256 ^ (7 - j) : Nat) : Int) % 256)) := by
        show _ = _
        unfold byteV byteN
        simp
      generalize u / 256 ^ (7 - j) = x at *
      go_wp2
      have R := World.rowIs.set HT.out j (.int .u8 ((x : Int) % 256))
      rw [← hx.out] at R ⊢
      refine ⟨⟨?_, HB.out.setCell (Nat.le_refl _) _⟩, by simp [intOf]⟩
      by_cases h0 : j = 0
      · subst h0
        refine Or.inl ⟨rfl, R.congr fun i hi => ?_⟩
        by_cases e : i = 0
        · subst e; simp
        · rw [if_neg e, if_pos (by omega)]
      · refine Or.inr ⟨j - 1, by omega, by rw [show ((j - 1 : Nat) : Int) = (j : Int) - 1 by omega], ?_, R.congr fun i hi => ?_⟩
        · rw [show 7 - (j - 1) = 7 - j + 1 by omega, ← hd.out]; simp
        · by_cases e : i = j
          · subst e; rw [if_pos rfl, if_pos (by omega)]
          · by_cases e2 : j < i
            · rw [if_neg e, if_pos e2, if_pos (by omega)]
            · rw [if_neg e, if_neg e2, if_neg (by omega)]

set_option maxRecDepth 100000 in
set_option maxHeartbeats 400000 in
theorem rnum_walk (s : ByteArray) (hs : s.size = 8) (w : World) :
    Calls Tryd.prog 38 #[.string s] w fun e w' => e = .returned (.int .u64 (number s.data.toList : Int)) ∧ w' = w := by
  go_enter Tryd.func38, Tryd.ntmps38
  go_wp2
  go_loop [3, 4] (fun n i => ∃ j : Nat, j ≤ 8 ∧ i = .int .i64 j ∧ n = .int .u64 (number (s.data.toList.take j) : Int)) (fun _ i => 8 - (intOf i).toNat)
  case atStart => exact ⟨0, by omega, rfl, rfl⟩
  case round =>
    obtain ⟨j, hj, rfl, rfl⟩ := hrel
    by_cases hlt : j < 8
    · have hx := number_lt (s.data.toList.take j)
      have ht : (s.data.toList.take j).length = j := by rw [List.length_take]; show min j s.size = j; omega
      rw [ht] at hx
      have hx2 : (256 : Nat) ^ j ≤ 256 ^ 7 := Nat.pow_le_pow_right (by decide) (by omega)
      have hjs : j < s.size := by omega
      have HN : Hid (number (s.data.toList.take (j + 1)) = number (s.data.toList.take j) * 256 + s[j].toNat) := by
        show _ = _
        rw [List.take_add_one, List.getElem?_eq_getElem (show j < s.data.toList.length from hjs)]
        exact number_back _ _
      generalize number (s.data.toList.take j) = x at *
      have hx3 : x < 72057594037927936 := Nat.lt_of_lt_of_le hx hx2
      have hcb := s[j].toNat_lt
      clear hx hx2 ht
      go_wp2
      exact ⟨⟨j + 1, hlt, by go_num, by rw [HN.out]; go_num⟩, by simp [intOf]; omega⟩
    · have hj8 : j = 8 := by omega
      subst hj8
      go_wp2
      go_ret
      refine ⟨?_, rfl⟩
      have e : s.data.toList.take 8 = s.data.toList := List.take_of_length_le (by show s.size ≤ 8; omega)
      rw [e]
      rfl
end Go.Proofs.YtedlohapoafkjaaDoor
