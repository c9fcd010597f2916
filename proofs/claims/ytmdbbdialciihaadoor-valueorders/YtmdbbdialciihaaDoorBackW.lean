/-
  The walk of ValueBack.
-/
import Derived.Test.YtmdbbdialciihaaDoorValueF
import Derived.Deep.RegionWith
import Derived.Deep.DeepCutAuto
namespace Go.Proofs.YtmdbbdialciihaaDoor
open Go.RowKit

/-- What is made of a number that may be too great: the value's kind, its number; the error's number. -/
def nk (v : Int) : Int := if fits v then 2 else 0
def nn (v : Int) : Int := if fits v then v else 0
def ne (v : Int) : Int := if fits v then 0 else 7

theorem reckon_num (op : ByteArray) (a b v : Int) (hk : knownR op = true) (ho : opI op a b = v) (ha : fits a = true) (hb : fits b = true) (w : World) :
    Calls Tryd.prog 17 #[.string op, valV 2 a ⟨#[]⟩, valV 2 b ⟨#[]⟩] w fun e w' => e = .returned (.tuple #[valV (nk v) (nn v) ⟨#[]⟩, .int .i64 (ne v)]) ∧ Below w.heap.size w w' := by
  refine (reckon_walk op 2 a ⟨#[]⟩ 2 b ⟨#[]⟩ ha hb w).mono ?_
  rintro e w' ⟨rfl, h⟩
  subst ho
  refine ⟨?_, h⟩
  cases hf : fits (opI op a b)
  · simp [reckV, reckE, hk, right_int, nk, nn, ne, hf]
  · simp [reckV, reckE, hk, right_int, nk, nn, ne, hf]

theorem known_plus : knownR ⟨#[43]⟩ = true := by simp [knownR, ByteArray.toList_eq]
theorem known_minus : knownR ⟨#[45]⟩ = true := by simp [knownR, ByteArray.toList_eq]
theorem known_times : knownR ⟨#[42]⟩ = true := by simp [knownR, ByteArray.toList_eq]
theorem op_plus (a b : Int) : opI ⟨#[43]⟩ a b = a + b := by simp [opI, ByteArray.toList_eq]
theorem op_minus (a b : Int) : opI ⟨#[45]⟩ a b = a - b := by simp [opI, ByteArray.toList_eq]
theorem op_times (a b : Int) : opI ⟨#[42]⟩ a b = a * b := by simp [opI, ByteArray.toList_eq]

theorem below_drew (w : World) : Below w.heap.size w w.drew := (Below.refl _ _).drew

theorem boxed_new (w : World) (k n : Int) (s : ByteArray) (t : TypeId) : Boxed (w.alloc (.cells #[.int .i64 k, .int .i64 n, .string s] t)) w.heap.size k n s := by
  refine ⟨?_, ?_, ?_, ?_⟩ <;> simp [go_sem]

theorem size_new (w : World) (o : Obj) : (w.alloc o).heap.size = w.heap.size + 1 := by simp

theorem free_new (w : World) (k n : Int) (s : ByteArray) (t : TypeId) : Free3 (w.alloc (.cells #[.int .i64 k, .int .i64 n, .string s] t)) w.heap.size := by
  refine ⟨?_, ?_, ?_, ?_⟩ <;> simp [go_sem]

theorem boxed_store {w : World} {p : Nat} {k n : Int} {s : ByteArray} (h : Boxed w p k n s) (k' n' : Int) (s' : ByteArray) :
    Boxed (((w.setCell ⟨p, 0, none⟩ (.int .i64 k')).setCell ⟨p, 1, none⟩ (.int .i64 n')).setCell ⟨p, 2, none⟩ (.string s')) p k' n' s' := by
  obtain ⟨h0, h1, h2, h3⟩ := h
  refine ⟨?_, ?_, ?_, ?_⟩ <;> simp [go_sem, h0, h1, h2, h3]

theorem below_store {w w1 : World} (hb : Below w.heap.size w w1) {p : Nat} (hp : w.heap.size ≤ p) (x y z : Value) :
    Below w.heap.size w (((w1.setCell ⟨p, 0, none⟩ x).setCell ⟨p, 1, none⟩ y).setCell ⟨p, 2, none⟩ z) :=
  ((hb.setCell hp _).setCell hp _).setCell hp _

set_option maxHeartbeats 4000000 in
theorem back_walk (a b : Int) (ha : fits a = true) (hb : fits b = true) (m : Int) (w : World) (hl : 1 < w.heap.size) (hm : w.cell? ⟨1, 0, none⟩ = some (.int .i64 m)) :
    Calls Tryd.prog 6 #[.int .i64 a, .int .i64 b] w fun e w' => e = .returned (.bool true) ∧ Below w.heap.size w w' := by
  go_enter Tryd.func6, Tryd.ntmps6
  go_wp2_with fail
  refine (awake_walk m _ hl hm).mono ?_
  rintro e w1 ⟨rfl, B⟩
  clear hm hl
  go_wp2_with (go_at_call 19; refine (num_walk _ _).mono ?_; rintro e w2 ⟨rfl, B2⟩; replace B := below_on B B2; clear B2)
  refine (reckon_num ⟨#[43]⟩ a b (a + b) known_plus (op_plus a b) ha hb _).mono ?_
  rintro e u1 ⟨rfl, B2⟩
  replace B := below_on B B2
  clear B2
  have S1 := boxed_new u1 (nk (a + b)) (nn (a + b)) ⟨#[]⟩ 23
  replace B := below_on B (below_alloc _ (.cells #[.int .i64 (nk (a + b)), .int .i64 (nn (a + b)), .string ⟨#[]⟩] 23))
  unfold valV
  go_wp2_with (go_at_call 19; refine (num_walk _ _).mono ?_; rintro e w2 ⟨rfl, B2⟩; replace S1 := S1.below B2; replace B := below_on B B2; clear B2)
  refine (reckon_num ⟨#[43]⟩ b a (a + b) known_plus ((op_plus b a).trans (Int.add_comm b a)) hb ha _).mono ?_
  rintro e u2 ⟨rfl, B2⟩
  replace S1 := S1.below B2
  replace B := below_on B B2
  clear B2
  replace S1 := S1.below (below_alloc _ (.cells #[.int .i64 (nk (a + b)), .int .i64 (nn (a + b)), .string ⟨#[]⟩] 23))
  have S2 := boxed_new u2 (nk (a + b)) (nn (a + b)) ⟨#[]⟩ 23
  replace B := below_on B (below_alloc _ (.cells #[.int .i64 (nk (a + b)), .int .i64 (nn (a + b)), .string ⟨#[]⟩] 23))
  unfold valV
  go_wp2_with (go_at_call 19; refine (num_walk _ _).mono ?_; rintro e w2 ⟨rfl, B2⟩; replace S1 := S1.below B2; replace S2 := S2.below B2; replace B := below_on B B2; clear B2)
  refine (reckon_num ⟨#[42]⟩ a b (a * b) known_times (op_times a b) ha hb _).mono ?_
  rintro e u3 ⟨rfl, B2⟩
  replace S1 := S1.below B2
  replace S2 := S2.below B2
  replace B := below_on B B2
  clear B2
  replace S1 := S1.below (below_alloc _ (.cells #[.int .i64 (nk (a * b)), .int .i64 (nn (a * b)), .string ⟨#[]⟩] 23))
  replace S2 := S2.below (below_alloc _ (.cells #[.int .i64 (nk (a * b)), .int .i64 (nn (a * b)), .string ⟨#[]⟩] 23))
  have S3 := boxed_new u3 (nk (a * b)) (nn (a * b)) ⟨#[]⟩ 23
  replace B := below_on B (below_alloc _ (.cells #[.int .i64 (nk (a * b)), .int .i64 (nn (a * b)), .string ⟨#[]⟩] 23))
  unfold valV
  go_wp2_with (go_at_call 19; refine (num_walk _ _).mono ?_; rintro e w2 ⟨rfl, B2⟩; replace S1 := S1.below B2; replace S2 := S2.below B2; replace S3 := S3.below B2; replace B := below_on B B2; clear B2)
  refine (reckon_num ⟨#[42]⟩ b a (a * b) known_times ((op_times b a).trans (Int.mul_comm b a)) hb ha _).mono ?_
  rintro e u4 ⟨rfl, B2⟩
  replace S1 := S1.below B2
  replace S2 := S2.below B2
  replace S3 := S3.below B2
  replace B := below_on B B2
  clear B2
  replace S1 := S1.below (below_alloc _ (.cells #[.int .i64 (nk (a * b)), .int .i64 (nn (a * b)), .string ⟨#[]⟩] 23))
  replace S2 := S2.below (below_alloc _ (.cells #[.int .i64 (nk (a * b)), .int .i64 (nn (a * b)), .string ⟨#[]⟩] 23))
  replace S3 := S3.below (below_alloc _ (.cells #[.int .i64 (nk (a * b)), .int .i64 (nn (a * b)), .string ⟨#[]⟩] 23))
  have S4 := boxed_new u4 (nk (a * b)) (nn (a * b)) ⟨#[]⟩ 23
  replace B := below_on B (below_alloc _ (.cells #[.int .i64 (nk (a * b)), .int .i64 (nn (a * b)), .string ⟨#[]⟩] 23))
  unfold valV
  obtain ⟨_, x1, y1, z1⟩ := id S1
  obtain ⟨_, x2, y2, z2⟩ := id S2
  obtain ⟨_, x3, y3, z3⟩ := id S3
  obtain ⟨_, x4, y4, z4⟩ := id S4
  cases hf : fits (a + b)
  · have e0 : ne (a + b) = 7 := by simp [ne, hf]
    go_wp2
    go_ret
    exact ⟨by simp, B⟩
  have e0 : ne (a + b) = 0 := by simp [ne, hf]
  have e1 : nk (a + b) = 2 := by simp [nk, hf]
  have e2 : nn (a + b) = a + b := by simp [nn, hf]
  rw [e1, e2] at S1
  have g0 : ne a = 0 := by simp [ne, ha]
  have g1 : nk a = 2 := by simp [nk, ha]
  have g2 : nn a = a := by simp [nn, ha]
  have le4 := B.size
  rw [size_new] at le4
  go_upto_region 11 with fail
  go_cut [13, 14] (fun s13 s14 wx => ∃ p, s13 = .pointer (some ⟨p, 0, none⟩) ∧ s14 = .int .i64 0 ∧ Boxed wx p 2 a ⟨#[]⟩ ∧ Below w.heap.size w wx)
  case first =>
    obtain ⟨_, xa, ya, za⟩ := S1.below (below_alloc _ (.cells #[.int .i64 0, .int .i64 0, .string ⟨#[]⟩] 23))
    obtain ⟨_, xb, yb, zb⟩ := id S1
    go_region_with (first
      | (go_at_call 19; refine (num_walk _ _).mono ?_; rintro e w2 ⟨rfl, B2⟩; replace S1 := (S1.below (below_drew _)).below B2; obtain ⟨_, x1, y1, z1⟩ := id S1; replace B := below_on (below_on B (below_drew _)) B2; clear B2; unfold valV)
      | (go_at_call 19; refine (num_walk _ _).mono ?_; rintro e w2 ⟨rfl, B2⟩; replace S1 := ((S1.below (below_alloc _ _)).below (below_drew _)).below B2; obtain ⟨_, x1, y1, z1⟩ := id S1; have N := ((boxed_new _ _ _ _ _).below (below_drew _)).below B2; have F := ((free_new _ _ _ _ _).below (below_drew _)).below B2; rw [size_new] at N F; obtain ⟨_, n1, n2, n3⟩ := id N; obtain ⟨_, f1, f2, f3⟩ := id F; replace B := below_on (below_on (below_on B (below_alloc _ _)) (below_drew _)) B2; clear B2; unfold valV)
      | (go_at_call 17; refine (reckon_num ⟨#[45]⟩ (a + b) b a known_minus ((op_minus (a + b) b).trans (Int.add_sub_cancel a b)) hf hb _).mono ?_; rintro e w3 ⟨rfl, B2⟩; have le2 := B.size; replace B := below_on B B2; (try (replace N := N.below B2; replace F := F.below B2; obtain ⟨_, n1, n2, n3⟩ := id N; obtain ⟨_, f1, f2, f3⟩ := id F)); clear B2; unfold valV)
      | (go_at_call 17; refine (reckon_num ⟨#[45]⟩ (a + b) b a known_minus ((op_minus (a + b) b).trans (Int.add_sub_cancel a b)) hf hb _).mono ?_; rintro e w3 ⟨rfl, B2⟩; have le2 := B.size; replace B := below_on (below_on B (below_alloc _ _)) B2; have N := (boxed_new _ _ _ _ _).below B2; have F := (free_new _ _ _ _ _).below B2; obtain ⟨_, n1, n2, n3⟩ := id N; obtain ⟨_, f1, f2, f3⟩ := id F; clear B2; unfold valV))
    all_goals go_wp2_with fail
    all_goals go_meet
    all_goals first
      | exact ⟨_, rfl, rfl, boxed_new _ _ _ _ _, below_on B (below_alloc _ _)⟩
      | exact ⟨_, rfl, rfl, boxed_store N _ _ _, below_store B le2 _ _ _⟩
      | exact ⟨_, rfl, rfl, boxed_store N _ _ _, below_store B le4 _ _ _⟩
  case rest =>
  obtain ⟨p, rfl, rfl, N, C⟩ := hcut
  clear S1 S2 S3 S4 B x1 x2 x3 x4 y1 y2 y3 y4 z1 z2 z3 z4
  obtain ⟨_, n1, n2, n3⟩ := id N
  go_wp2
  go_region_with (go_at_call 19; refine (num_walk _ _).mono ?_; rintro e w2 ⟨rfl, B2⟩; replace N := (N.below (below_drew _)).below B2; obtain ⟨_, n1, n2, n3⟩ := id N; replace C := below_on (below_on C (below_drew _)) B2; clear B2; unfold valV)
  all_goals go_wp2
  all_goals (go_ret; exact ⟨by simp [go_sem], C⟩)
end Go.Proofs.YtmdbbdialciihaaDoor
