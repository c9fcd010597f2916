/-
  A value's key: Key of package code; and 'awake', the document's example, which every statement of the layer asks first.
-/
import Derived.Test.YtedlohapoafkjaaDoorCodeB
import Derived.Test.YtedlohapoafkjaaDoorShelf
namespace Go.Proofs.YtedlohapoafkjaaDoor
open Go.RowKit

def keyS (k n : Int) (s : ByteArray) : ByteArray := if rightB k n s then strB (keyL k n s) else ⟨#[]⟩
def keyE (k n : Int) (s : ByteArray) : Int := if rightB k n s then 0 else 15

/-- A value lies in the block p. -/
def Boxed (w : World) (p : Nat) (k n : Int) (s : ByteArray) : Prop :=
  p < w.heap.size ∧ w.cell? ⟨p, 0, none⟩ = some (.int .i64 k) ∧ w.cell? ⟨p, 1, none⟩ = some (.int .i64 n) ∧ w.cell? ⟨p, 2, none⟩ = some (.string s)

theorem Boxed.below {w w' : World} {p : Nat} {k n : Int} {s : ByteArray} (h : Boxed w p k n s) (hb : Below w.heap.size w w') : Boxed w' p k n s := by
  obtain ⟨h0, h1, h2, h3⟩ := h
  exact ⟨Nat.lt_of_lt_of_le h0 hb.size, by rw [hb.cell h0]; exact h1, by rw [hb.cell h0]; exact h2, by rw [hb.cell h0]; exact h3⟩

theorem boxed_new (w : World) (k n : Int) (s : ByteArray) (t : TypeId) : Boxed (w.alloc (.cells #[.int .i64 k, .int .i64 n, .string s] t)) w.heap.size k n s := by
  refine ⟨?_, ?_, ?_, ?_⟩ <;> simp [go_sem]

theorem conv2 (W : World) (b : Nat) (c d : UInt8) (h : W.cell? ⟨b, 0, none⟩ = some (.int .u8 (c.toNat : Int))) (h1 : W.cell? ⟨b, 1, none⟩ = some (.int .u8 (d.toNat : Int))) :
    (convert 58 9 (.slice (some ⟨b, 0, none⟩) 2 2)).run Tryd.prog W = .ok (.string ⟨#[c, d]⟩) W :=
  run_convert_bytes_back W 58 9 5 ⟨b, 0, none⟩ 2 [c, d] Tryd.underlying58 Tryd.underlying5 Tryd.underlying9 (fun j hj => by
    have hj' : j < 2 := by simpa using hj
    have : j = 0 ∨ j = 1 := by omega
    rcases this with rfl | rfl
    · exact h
    · exact h1)

theorem repl_text (s : ByteArray) : strB (keyL 3 0 s) = ⟨#[3]⟩ ++ ⟨(Lib.replaceAll s.data.toList [0] [0, 255]).toArray⟩ ++ ⟨#[0, 1]⟩ := by
  rw [replaceAll_each 0 [0, 255] _ (by decide)]
  show strB (3 :: textK s.data.toList) = _
  unfold textK
  apply ByteArray.ext
  simp [strB]

theorem repl_len0 (s : ByteArray) : (Lib.replaceAll s.data.toList [0] [0, 255]).length ≤ 2 * s.size := by
  rw [replaceAll_each 0 [0, 255] _ (by decide)]
  exact each_length 0 [0, 255] s.data.toList (by decide)

theorem count_fits0 (s : ByteArray) (hs : s.size ≤ 24) : s.size + Lib.countB s ⟨#[0]⟩ * (ByteArray.mk #[0, 255]).size ≤ 140737488355328 := by
  have h1 : 1 ≤ (ByteArray.mk #[0]).size := by decide
  have h := Lib.countB_le (ByteArray.mk #[0]) h1 s.size s (Nat.le_refl _)
  have h2 : (ByteArray.mk #[0, 255]).size = 2 := by decide
  rw [h2]; omega

set_option maxRecDepth 100000 in
set_option maxHeartbeats 1000000 in
theorem key_walk (k n : Int) (s : ByteArray) (hn : fits n = true) (m : Int) (w : World) (hl : 1 < w.heap.size) (hm : w.cell? ⟨1, 0, none⟩ = some (.int .i64 m)) :
    Calls Tryd.prog 16 #[valV k n s] w fun e w' => e = .returned (.tuple #[.string (keyS k n s), .int .i64 (keyE k n s)]) ∧ Below w.heap.size w w' := by
  go_enter Tryd.func16, Tryd.ntmps16
  have A := boxed_new w k n s 23
  have B0 := below_alloc w (.cells #[.int .i64 k, .int .i64 n, .string s] 23)
  have e3 : keyS k n s = if rightB k n s then strB (keyL k n s) else ⟨#[]⟩ := rfl
  have e4 : keyE k n s = if rightB k n s then 0 else 15 := rfl
  unfold valV
  go_wp2_with fail
  refine (right_walk k n s _).mono ?_
  rintro e w1 ⟨rfl, hb⟩
  replace A := A.below hb
  replace hb := below_on B0 hb
  obtain ⟨_, a0, a1, a2⟩ := id A
  have hl1 := Nat.lt_of_lt_of_le hl hb.size
  have hm1 : w1.cell? ⟨1, 0, none⟩ = some (.int .i64 m) := by rw [hb.cell hl]; exact hm
  clear hl hm B0
  cases hr : rightB k n s
  · rw [hr] at e3 e4
    have e3' : keyS k n s = ⟨#[]⟩ := e3
    have e4' : keyE k n s = 15 := e4
    clear e3 e4
    go_wp2
    go_ret2
    exact ⟨by rw [e3', e4']; rfl, hb⟩
  · rw [hr] at e3 e4
    have e4' : keyE k n s = 0 := e4
    have e3' : keyS k n s = strB (keyL k n s) := e3
    clear e3 e4
    rcases right_cases hr with ⟨rfl, rfl, rfl⟩ | ⟨rfl, h01, rfl⟩ | ⟨rfl, rfl⟩ | ⟨rfl, rfl, hs⟩
    · go_wp2
      go_ret2
      exact ⟨by rw [e3', e4']; rfl, hb⟩
    · rcases h01 with rfl | rfl
      · go_wp2
        rw [conv2 _ w1.heap.size 1 0 (by simp [go_sem]) (by simp [go_sem])]
        go_wp2
        go_ret2
        exact ⟨by rw [e3', e4']; rfl, below_on hb (below_alloc _ _)⟩
      · go_wp2
        rw [conv2 _ w1.heap.size 1 1 (by simp [go_sem]) (by simp [go_sem])]
        go_wp2
        go_ret2
        exact ⟨by rw [e3', e4']; rfl, below_on hb (below_alloc _ _)⟩
    · go_wp2_with fail
      rw [turn_int n hn]
      refine (split_walk (bias n) _).mono ?_
      rintro e w2 ⟨rfl, hb2⟩
      rw [cells_eight]
      unfold byteV
      go_wp2
      rw [conv8 _ w2.heap.size (bias n) (cells8_at w2 (bias n))]
      have hz : (strB (beL 8 (bias n))).size = 8 := by show (beL 8 (bias n)).length = 8; exact beL_length _ _
      go_wp2
      go_ret2
      refine ⟨?_, below_on hb (below_on hb2 (below_alloc _ _))⟩
      rw [e3', e4']
      have : strB (keyL 2 n ⟨#[]⟩) = ⟨#[2]⟩ ++ strB (beL 8 (bias n)) := by
        show strB ([2] ++ beL 8 (bias n)) = _
        rw [strB_append]; rfl
      rw [this]
      rfl
    · go_wp2_with fail
      refine (Tryd.strings_ReplaceAll s ⟨#[0]⟩ ⟨#[0, 255]⟩ m _ (by omega) hm1 (by decide) (count_fits0 s hs)).mono ?_
      rintro e w2 ⟨rfl, hb2⟩
      have hL := repl_len0 s
      go_wp2
      go_ret2
      refine ⟨?_, below_on hb hb2⟩
      rw [e3', e4', repl_text s]
      rfl

theorem awake_key1 : ((strB (keyL 2 1 ⟨#[]⟩)).toList == [2, 128, 0, 0, 0, 0, 0, 0, 1]) = true := by
  rw [ByteArray.toList_eq]; decide
theorem awake_key2 : ((strB (keyL 3 0 ⟨#[97]⟩)).toList == [3, 97, 0, 1]) = true := by
  rw [ByteArray.toList_eq]; decide
theorem awake_next : ((strB (nextL [97, 255])).toList == [98]) = true := by
  rw [ByteArray.toList_eq]; decide

set_option maxRecDepth 100000 in
set_option maxHeartbeats 1000000 in
theorem awake_walk (m : Int) (w : World) (hl : 1 < w.heap.size) (hm : w.cell? ⟨1, 0, none⟩ = some (.int .i64 m)) :
    Calls Tryd.prog 14 #[] w fun e w' => e = .returned (.bool true) ∧ Below w.heap.size w w' := by
  go_enter Tryd.func14, Tryd.ntmps14
  go_wp2_with fail
  refine (key_walk 2 1 ⟨#[]⟩ (by decide) m _ hl hm).mono ?_
  rintro e w1 ⟨rfl, hb⟩
  have hl1 := Nat.lt_of_lt_of_le hl hb.size
  have hm1 : w1.cell? ⟨1, 0, none⟩ = some (.int .i64 m) := by rw [hb.cell hl]; exact hm
  rw [show keyE 2 1 ⟨#[]⟩ = 0 from rfl]
  have k1 : ((keyS 2 1 ⟨#[]⟩).toList == [2, 128, 0, 0, 0, 0, 0, 0, 1]) = true := awake_key1
  generalize keyS 2 1 ⟨#[]⟩ = x1 at *
  go_wp2_with fail
  refine (key_walk 3 0 ⟨#[97]⟩ (by decide) m _ hl1 hm1).mono ?_
  rintro e w2 ⟨rfl, hb2⟩
  replace hb := below_on hb hb2
  rw [show keyE 3 0 ⟨#[97]⟩ = 0 from rfl]
  have k2 : ((keyS 3 0 ⟨#[97]⟩).toList == [3, 97, 0, 1]) = true := awake_key2
  generalize keyS 3 0 ⟨#[97]⟩ = x2 at *
  clear hl hm hl1 hm1 hb2
  go_wp2_with fail
  refine (next_walk ⟨#[97, 255]⟩ (by decide) _).mono ?_
  rintro e w3 ⟨rfl, hb3⟩
  replace hb := below_on hb hb3
  have k3 : ((strB (nextL [97, 255])).toList == [98]) = true := awake_next
  generalize strB (nextL [97, 255]) = x3 at *
  go_wp2
  go_ret
  exact ⟨rfl, hb⟩
end Go.Proofs.YtedlohapoafkjaaDoor
