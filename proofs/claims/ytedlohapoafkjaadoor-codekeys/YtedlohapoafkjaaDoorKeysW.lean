/-
  The walk of CodeKeys.
-/
import Derived.Test.YtedlohapoafkjaaDoorCodeF
import Derived.Test.YtedlohapoafkjaaDoorCodeH
import Derived.Test.YtedlohapoafkjaaDoorGreat3
namespace Go.Proofs.YtedlohapoafkjaaDoor
open Go.RowKit

/-- What a walk over one boxed value keeps from call to call. -/
structure Ctx1 (w0 : World) (p : Nat) (k n : Int) (s : ByteArray) (m : Int) (W : World) : Prop where
  A : Boxed W p k n s
  B : Below w0.heap.size w0 W
  hl : 1 < W.heap.size
  hm : W.cell? ⟨1, 0, none⟩ = some (.int .i64 m)

theorem Ctx1.step {w0 : World} {p : Nat} {k n : Int} {s : ByteArray} {m : Int} {W W' : World} (h : Ctx1 w0 p k n s m W) (hb : Below W.heap.size W W') : Ctx1 w0 p k n s m W' :=
  ⟨h.A.below hb, below_on h.B hb, Nat.lt_of_lt_of_le h.hl hb.size, by rw [hb.cell h.hl]; exact h.hm⟩

theorem ctx1_start (w : World) (k n : Int) (s : ByteArray) (m : Int) (hl : 1 < w.heap.size) (hm : w.cell? ⟨1, 0, none⟩ = some (.int .i64 m)) :
    Ctx1 w w.heap.size k n s m (w.alloc (.cells #[.int .i64 k, .int .i64 n, .string s] 23)) :=
  ⟨boxed_new w k n s 23, below_alloc w _, Nat.lt_of_lt_of_le hl (below_alloc w _).size, by rw [(below_alloc w _).cell hl]; exact hm⟩

theorem key_size {k n : Int} {s : ByteArray} (h : rightB k n s = true) : (strB (keyL k n s)).size ≤ 60 := by
  show (keyL k n s).length ≤ 60
  rcases right_cases h with ⟨rfl, rfl, rfl⟩ | ⟨rfl, rfl | rfl, rfl⟩ | ⟨rfl, rfl⟩ | ⟨rfl, rfl, hs⟩
  · decide
  · decide
  · decide
  · show (2 :: beL 8 (bias n)).length ≤ 60
    rw [List.length_cons, beL_length]; decide
  · show (3 :: (each 0 [0, 255] s.data.toList ++ [0, 1])).length ≤ 60
    have := each_length 0 [0, 255] s.data.toList (by decide)
    have h2 : s.data.toList.length = s.size := rfl
    simp only [List.length_cons, List.length_append, List.length_nil]
    omega

/-- A key with more behind it is read as its value, with the rest. -/
theorem read_back {k n : Int} {s : ByteArray} (h : rightB k n s = true) (hn : fits n = true) (more : ByteArray) :
    rdV (strB (keyL k n s) ++ more).data.toList = valV k n s ∧ restS (strB (keyL k n s) ++ more) = more ∧ readE (strB (keyL k n s) ++ more) = 0 := by
  have e : (strB (keyL k n s) ++ more).data.toList = keyL k n s ++ more.data.toList := by
    simp [strB]
  have hr := read_key h hn more.data.toList
  rw [← e] at hr
  obtain ⟨h1, h2⟩ := rd_some hr
  have hz : ¬ (keyL k n s).length = 0 := by
    unfold keyL
    split
    · simp
    split
    · simp
    split <;> simp
  refine ⟨h1, ?_, ?_⟩
  · unfold restS
    rw [h2, if_neg hz, e, List.drop_left]
    rfl
  · unfold readE
    rw [h2, if_neg hz]

theorem valued_one (w : World) (k n : Int) (s : ByteArray) (t : TypeId) : Valued (w.alloc (.cells #[.int .i64 k, .int .i64 n, .string s] t)) w.heap.size 0 1 [⟨k, n, s⟩] := by
  refine ⟨by simp, rfl, fun j v hv => ?_⟩
  have : j = 0 := by
    have := (List.getElem?_eq_some_iff.1 hv).1
    simpa using this
  subst this
  simp at hv
  subst hv
  simp [go_sem]

set_option maxRecDepth 100000 in
set_option maxHeartbeats 4000000 in
theorem keys_walk (k n : Int) (s more : ByteArray) (hn : fits n = true) (m : Int) (w : World) (hl : 1 < w.heap.size) (hm : w.cell? ⟨1, 0, none⟩ = some (.int .i64 m)) :
    Calls Tryd.prog 4 #[valV k n s, .string more] w fun e w' => e = .returned (.bool true) ∧ Below w.heap.size w w' := by
  go_enter Tryd.func4, Tryd.ntmps4
  have C := ctx1_start w k n s m hl hm
  clear hl hm
  unfold valV
  go_wp2_with fail
  refine (awake_walk m _ C.hl C.hm).mono ?_
  rintro e w1 ⟨rfl, hb⟩
  replace C := C.step hb
  clear hb
  obtain ⟨_, a0, a1, a2⟩ := C.A
  go_wp2_with fail
  refine (great_walk _ 0 1 1 _ (by decide) _ (valued_one w1 k n s 23)).mono ?_
  rintro e w2 ⟨⟨g, rfl⟩, hb⟩
  replace C := C.step (below_on (below_alloc _ _) hb)
  clear hb a0 a1 a2
  obtain ⟨_, a0, a1, a2⟩ := C.A
  cases g
  · by_cases hmore : 1000 < more.size
    · go_wp2
      go_ret
      exact ⟨rfl, C.B⟩
    have hmore' : more.size ≤ 1000 := by omega
    clear hmore
    go_wp2_with fail
    refine (key_walk k n s hn m _ C.hl C.hm).mono ?_
    rintro e w3 ⟨rfl, hb⟩
    replace C := C.step hb
    clear hb a0 a1 a2
    obtain ⟨_, a0, a1, a2⟩ := C.A
    go_wp2_with fail
    refine (rright_walk k n s _).mono ?_
    rintro e w4 ⟨rfl, hb⟩
    replace C := C.step hb
    clear hb a0 a1 a2
    obtain ⟨_, a0, a1, a2⟩ := C.A
    cases hr : rightB k n s
    · have e1 : keyS k n s = ⟨#[]⟩ := by unfold keyS; rw [hr]; rfl
      have e2 : keyE k n s = 15 := by unfold keyE; rw [hr]; rfl
      go_wp2
      go_ret
      exact ⟨rfl, C.B⟩
    · have e1 : keyS k n s = strB (keyL k n s) := by unfold keyS; rw [hr]; rfl
      have e2 : keyE k n s = 0 := by unfold keyE; rw [hr]; rfl
      rw [e1, e2]
      clear e1 e2
      have hz := key_size hr
      obtain ⟨q1, q2, q3⟩ := read_back hr hn more
      have HK := rkey_walk k n s hr hn
      generalize strB (keyL k n s) = x at *
      go_wp2_with fail
      refine (read_walk (x ++ more) (by rw [ByteArray.size_append]; omega) _).mono ?_
      rintro e w5 ⟨rfl, hb⟩
      replace C := C.step hb
      rw [q1, q2, q3]
      clear hb a0 a1 a2 q1 q2 q3
      obtain ⟨_, a0, a1, a2⟩ := C.A
      unfold valV
      have D := boxed_new w5 k n s 23
      go_wp2_with fail
      refine (HK _).mono ?_
      rintro e w6 ⟨rfl, hb⟩
      replace D := D.below hb
      replace C := C.step (below_on (below_alloc _ _) hb)
      clear hb a0 a1 a2
      obtain ⟨_, a0, a1, a2⟩ := C.A
      obtain ⟨_, d0, d1, d2⟩ := D
      have hs : (s.toList == s.toList) = true := beq_self_eq_true _
      go_wp2
      go_ret
      exact ⟨rfl, C.B⟩
  · go_wp2
    go_ret
    exact ⟨rfl, C.B⟩
end Go.Proofs.YtedlohapoafkjaaDoor
