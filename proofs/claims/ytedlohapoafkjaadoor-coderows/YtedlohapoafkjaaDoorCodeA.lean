/-
  A number's eight bytes: split and joined of package code.
-/
import Derived.Deep.OwnRows
import Derived.Lib.LazyBuf
import Derived.Test.YtedlohapoafkjaaDoorBitK
namespace Go.Proofs.YtedlohapoafkjaaDoor
open Go.RowKit

/-- Eight bytes as an array's cells. -/
def cells (l : List UInt8) : Array Value := (l.map fun c => Value.int .u8 (c.toNat : Int)).toArray

/-- Byte t of a number's eight. -/
def byteN (u t : Nat) : Nat := u / 256 ^ (7 - t) % 256
def byteV (u t : Nat) : Value := .int .u8 (byteN u t : Int)

theorem byte_at (u j : Nat) (hj : j < 8) : Value.int .u8 ((u : Int) / 2 ^ (56 - 8 * j) % 256) = byteV u j := by
  have h : (256 : Nat) ^ (7 - j) = 2 ^ (56 - 8 * j) := by
    rw [show 56 - 8 * j = 8 * (7 - j) by omega, Nat.pow_mul]
  unfold byteV byteN
  rw [h]
  simp

theorem cells_eight (u : Nat) : cells (beL 8 u) = #[byteV u 0, byteV u 1, byteV u 2, byteV u 3, byteV u 4, byteV u 5, byteV u 6, byteV u 7] := by
  simp [cells, beL, byteV, byteN, Nat.div_div_eq_div_mul]

/-- Eight noughts. -/
def zero8 : Array Value := #[.int .u8 0, .int .u8 0, .int .u8 0, .int .u8 0, .int .u8 0, .int .u8 0, .int .u8 0, .int .u8 0]

theorem zero8_get : ∀ i, i < zero8.size → zero8[i]? = some (.int .u8 0) := by
  intro i hi
  have hi' : i < 8 := hi
  rw [show zero8 = Array.replicate 8 (.int .u8 0) from rfl]
  simp [hi']

set_option maxRecDepth 100000 in
set_option maxHeartbeats 400000 in
theorem split_walk (u : Nat) (w : World) :
    Calls Tryd.prog 35 #[.int .u64 (u : Int)] w fun e w' => e = .returned (.agg (cells (beL 8 u))) ∧ Below w.heap.size w w' := by
  go_enter Tryd.func35, Tryd.ntmps35
  go_wp2
  go_loopw [5] (fun i wr => ∃ j : Nat, j ≤ 8 ∧ i = .int .i64 j ∧ Below w.heap.size w wr ∧ wr.heap.size = w.heap.size + 2 ∧ wr.rowIs w.heap.size 59 8 (fun _ => .int .u8 0) ∧ wr.rowIs (w.heap.size + 1) 59 8 (fun t => if t < j then byteV u t else .int .u8 0)) (fun i _ => 8 - (intOf i).toNat)
  case atStart =>
    refine ⟨0, by omega, rfl, ((Below.refl _ _).alloc (Nat.le_refl _) _).alloc (by simp) _, by simp, ?_, ?_⟩
    · exact (World.rowIs_alloc w zero8 59 (fun _ => .int .u8 0) zero8_get).alloc _
    · have := World.rowIs_alloc (w.alloc (.cells zero8 59)) zero8 59 (fun t => if t < 0 then byteV u t else .int .u8 0) (fun i hi => by rw [zero8_get i hi]; simp)
      simp only [World.size_alloc] at this
      exact this
  case round =>
    obtain ⟨j, hj, rfl, B, hz, R, T⟩ := hrel
    by_cases hlt : j < 8
    · have hc := T.cell hlt
      have hf := T.frozen j
      have HB : Hid _ := B
      have HR : Hid _ := R
      have HT : Hid _ := T
      clear B R T
      go_wp2
      rw [byte_at u j hlt]
      refine ⟨⟨j + 1, by omega, by go_num, HB.out.setCell (by simp) _, by simpa [World.setCell] using hz, World.rowIs.setOther HR.out (by simp) _, ?_⟩, by simp [intOf]; omega⟩
      refine (World.rowIs.set HT.out j (byteV u j)).congr fun i hi => ?_
      by_cases e : i = j
      · subst e; simp
      · by_cases e2 : i < j
        · rw [if_neg e, if_pos e2, if_pos (by omega)]
        · rw [if_neg e, if_neg e2, if_neg (by omega)]
    · have hj8 : j = 8 := by omega
      subst hj8
      have t0 := T.cell (i := 0) (by decide)
      have t1 := T.cell (i := 1) (by decide)
      have t2 := T.cell (i := 2) (by decide)
      have t3 := T.cell (i := 3) (by decide)
      have t4 := T.cell (i := 4) (by decide)
      have t5 := T.cell (i := 5) (by decide)
      have t6 := T.cell (i := 6) (by decide)
      have t7 := T.cell (i := 7) (by decide)
      simp only [Nat.reduceLT, if_true] at t0 t1 t2 t3 t4 t5 t6 t7
      unfold byteV at t0 t1 t2 t3 t4 t5 t6 t7
      have r0 := R.cell (i := 0) (by decide)
      have r1 := R.cell (i := 1) (by decide)
      have r2 := R.cell (i := 2) (by decide)
      have r3 := R.cell (i := 3) (by decide)
      have r4 := R.cell (i := 4) (by decide)
      have r5 := R.cell (i := 5) (by decide)
      have r6 := R.cell (i := 6) (by decide)
      have r7 := R.cell (i := 7) (by decide)
      have hf := R.frozen
      have HB : Hid _ := B
      clear T R B
      go_wp2
      refine bodyPost_ret (v := .agg (cells (beL 8 u))) (by rw [cells_eight]; simp [results, Tryd.results35, go_sem, byteV, *]) rfl ⟨rfl, ?_⟩
      exact (((((((HB.out.setCell (Nat.le_refl _) _).setCell (Nat.le_refl _) _).setCell (Nat.le_refl _) _).setCell (Nat.le_refl _) _).setCell (Nat.le_refl _) _).setCell (Nat.le_refl _) _).setCell (Nat.le_refl _) _).setCell (Nat.le_refl _) _
theorem idx8 (cs : Array Value) (j : Nat) (hj : j < 8) (n : Int) (hc : cs[j]? = some (.int .u8 n)) (W : World) : (Instr.index 59 (.agg cs) (.int .i64 (j : Int))).run Tryd.prog W = .ok (.int .u8 n) W := by
  simp [Instr.index, run_underlying Tryd.underlying59, asIntOf, go_sem]
  rw [if_pos hj, hc]
  rfl

/-- Eight bytes, one by one. -/
theorem eight_bytes {l : List UInt8} (h : l.length = 8) : ∃ a b c d e f g i, l = [a, b, c, d, e, f, g, i] := by
  match l, h with
  | [a, b, c, d, e, f, g, i], _ => exact ⟨a, b, c, d, e, f, g, i, rfl⟩

set_option maxRecDepth 100000 in
set_option maxHeartbeats 400000 in
theorem joined_walk (s : ByteArray) (hs : s.size = 8) (w : World) :
    Calls Tryd.prog 45 #[.string s] w fun e w' => e = .returned (.int .u64 (number s.data.toList : Int)) ∧ Below w.heap.size w w' := by
  obtain ⟨c0, c1, c2, c3, c4, c5, c6, c7, hl⟩ := eight_bytes (l := s.data.toList) hs
  go_enter Tryd.func45, Tryd.ntmps45
  go_wp2
  rw [run_copy_string _ 58 9 3 5 w.heap.size 0 8 8 s Tryd.underlying58 (fun w => by simp [go_sem]) (by omega) (fun j hj => by
    have hj' : j < 8 := by omega
    have := (World.rowIs_alloc w zero8 59 (fun _ => .int .u8 0) zero8_get).cell (i := j) hj'
    rw [Nat.zero_add]
    exact Option.isSome_iff_exists.2 ⟨_, this⟩) (fun j hj => by
    rw [Nat.zero_add]
    exact (World.rowIs_alloc w zero8 59 (fun _ => .int .u8 0) zero8_get).frozen j)]
  rw [hl]
  simp only [List.map_cons, List.map_nil, World.setCells]
  go_wp2
  go_loop [4, 11] (fun n i => ∃ j : Nat, j ≤ 8 ∧ i = .int .i64 j ∧ n = .int .u64 (number (s.data.toList.take j) : Int)) (fun _ i => 8 - (intOf i).toNat)
  case atStart => exact ⟨0, by omega, rfl, rfl⟩
  case round =>
    obtain ⟨j, hj, rfl, rfl⟩ := hrel
    by_cases hlt : j < 8
    · obtain ⟨c, hc⟩ : ∃ c, s.data.toList[j]? = some c := ⟨s.data.toList[j]'(by rw [hl]; exact hlt), List.getElem?_eq_getElem _⟩
      have hx := number_lt (s.data.toList.take j)
      have ht : (s.data.toList.take j).length = j := by rw [hl, List.length_take]; simp; omega
      rw [ht] at hx
      have hx2 : (256 : Nat) ^ j ≤ 256 ^ 7 := Nat.pow_le_pow_right (by decide) (by omega)
      have HN : Hid (number (s.data.toList.take (j + 1)) = number (s.data.toList.take j) * 256 + c.toNat) := by
        show _ = _
        rw [List.take_add_one, hc]
        exact number_back _ _
      have hi : ∀ W, (Instr.index 59 (.agg #[.int .u8 c0.toNat, .int .u8 c1.toNat, .int .u8 c2.toNat, .int .u8 c3.toNat, .int .u8 c4.toNat, .int .u8 c5.toNat, .int .u8 c6.toNat, .int .u8 c7.toNat]) (.int .i64 (j : Int))).run Tryd.prog W = .ok (.int .u8 (c.toNat : Int)) W :=
        fun W => idx8 _ j hlt _ (by
          have : #[Value.int .u8 c0.toNat, .int .u8 c1.toNat, .int .u8 c2.toNat, .int .u8 c3.toNat, .int .u8 c4.toNat, .int .u8 c5.toNat, .int .u8 c6.toNat, .int .u8 c7.toNat] = (s.data.toList.map fun c => Value.int .u8 (c.toNat : Int)).toArray := by rw [hl]; rfl
          rw [this]
          simp [hc]) W
      generalize number (s.data.toList.take j) = x at *
      have hx3 : x < 72057594037927936 := Nat.lt_of_lt_of_le hx hx2
      clear hx hx2 ht hl hc
      have hcb := c.toNat_lt
      go_wp2
      rw [or_byte x c.toNat hx3 hcb]
      exact ⟨⟨j + 1, hlt, by go_num, by rw [HN.out]⟩, by simp [intOf]; omega⟩
    · have hj8 : j = 8 := by omega
      subst hj8
      go_wp2
      go_ret
      exact ⟨rfl, below_alloc _ _⟩
end Go.Proofs.YtedlohapoafkjaaDoor
