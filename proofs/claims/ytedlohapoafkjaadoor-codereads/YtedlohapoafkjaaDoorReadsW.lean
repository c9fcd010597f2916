/-
  The walk of CodeReads.
-/
import Derived.Test.YtedlohapoafkjaaDoorCodeI
namespace Go.Proofs.YtedlohapoafkjaaDoor
open Go.RowKit

/-- What reading some bytes comes to: nothing, or a right value whose key they begin with. -/
theorem reads_cases (s : ByteArray) :
    (readN s.data.toList = 0 ∧ rdV s.data.toList = valV 0 0 ⟨#[]⟩ ∧ restS s = ⟨#[]⟩ ∧ readE s = 16) ∨
    ∃ k n t m, readN s.data.toList = m ∧ ¬ m = 0 ∧ m ≤ s.size ∧ rdV s.data.toList = valV k n t ∧ rightB k n t = true ∧ fits n = true ∧ restS s = s.extract m s.size ∧ readE s = 0 ∧ keyS k n t = s.extract 0 m ∧ keyE k n t = 0 := by
  by_cases h0 : readN s.data.toList = 0
  · refine Or.inl ⟨h0, rdV_none h0, ?_, ?_⟩
    · unfold restS; rw [if_pos h0]
    · unfold readE; rw [if_pos h0]
  · right
    cases hr : readL s.data.toList with
    | none => exact absurd (rd_none hr).2 h0
    | some p =>
      obtain ⟨⟨k, n, t⟩, m⟩ := p
      obtain ⟨e1, e2⟩ := rd_some hr
      obtain ⟨r1, r2, r3, more, r4⟩ := key_read hr
      rw [e2] at h0
      have hle := readN_le s.data.toList
      rw [e2] at hle
      refine ⟨k, n, strB t, m, e2, h0, hle, e1, r1, r2, ?_, ?_, ?_, ?_⟩
      · unfold restS; rw [e2, if_neg h0, extract_drop]
      · unfold readE; rw [e2, if_neg h0]
      · unfold keyS
        rw [show rightB k n (strB t) = true from r1, extract_take, r4, r3, List.take_left]
        rfl
      · unfold keyE
        rw [show rightB k n (strB t) = true from r1]
        rfl

set_option maxRecDepth 100000 in
set_option maxHeartbeats 4000000 in
theorem reads_walk (s : ByteArray) (m : Int) (w : World) (hl : 1 < w.heap.size) (hm : w.cell? ⟨1, 0, none⟩ = some (.int .i64 m)) :
    Calls Tryd.prog 5 #[.string s] w fun e w' => e = .returned (.bool true) ∧ Below w.heap.size w w' := by
  go_enter Tryd.func5, Tryd.ntmps5
  go_wp2_with fail
  refine (awake_walk m _ hl hm).mono ?_
  rintro e w1 ⟨rfl, hb⟩
  by_cases h1000 : 1000 < s.size
  · go_wp2
    go_ret
    exact ⟨rfl, hb⟩
  have hs : s.size ≤ 1000 := by omega
  clear h1000
  go_wp2_with fail
  refine (read_walk s (by omega) _).mono ?_
  rintro e w2 ⟨rfl, hb2⟩
  replace hb := below_on hb hb2
  clear hb2
  have HR := rread_walk s (by omega)
  rcases reads_cases s with ⟨e1, e2, e3, e4⟩ | ⟨k, n, t, q, e1, hq, hle, e2, hr, hn, e3, e4, e5, e6⟩
  · rw [e2, e3, e4]
    rw [e1, e2] at HR
    clear e1 e2 e3 e4
    unfold valV at HR ⊢
    have A := boxed_new w2 0 0 ⟨#[]⟩ 23
    go_wp2_with fail
    refine (HR _).mono ?_
    rintro e w3 ⟨rfl, hb3⟩
    replace A := A.below hb3
    replace hb := below_on hb (below_on (below_alloc _ _) hb3)
    clear hb3 HR
    obtain ⟨_, a0, a1, a2⟩ := A
    go_wp2
    go_ret
    exact ⟨rfl, below_on hb (below_alloc _ _)⟩
  · rw [e2, e3, e4]
    rw [e1, e2] at HR
    clear e1 e2 e3 e4
    have hm2 : w2.cell? ⟨1, 0, none⟩ = some (.int .i64 m) := by rw [hb.cell hl]; exact hm
    have hl2 := Nat.lt_of_lt_of_le hl hb.size
    unfold valV at HR ⊢
    have A := boxed_new w2 k n t 23
    have hqi : ((q : Int) == 0) = false := by rw [beq_eq_false_iff_ne]; omega
    go_wp2_with fail
    refine (HR _).mono ?_
    rintro e w3 ⟨rfl, hb3⟩
    replace A := (A.below hb3).below (below_alloc _ (.cells #[.int .i64 k, .int .i64 n, .string t] 23))
    have hb4 := below_on (below_on (below_alloc w2 (.cells #[.int .i64 k, .int .i64 n, .string t] 23)) hb3) (below_alloc _ (.cells #[.int .i64 k, .int .i64 n, .string t] 23))
    have D := boxed_new w3 k n t 23
    clear hb3 HR
    have hm3 := hb4.cell (p := ⟨1, 0, none⟩) hl2
    rw [hm2] at hm3
    have hl3 := Nat.lt_of_lt_of_le hl2 hb4.size
    replace hb := below_on hb hb4
    clear hb4 hm2 hl2 hl hm
    obtain ⟨_, a0, a1, a2⟩ := id A
    obtain ⟨_, d0, d1, d2⟩ := id D
    go_wp2_with fail
    refine (key_walk k n t hn m _ hl3 hm3).mono ?_
    rintro e w4 ⟨rfl, hb4⟩
    rw [e5, e6]
    clear a0 a1 a2 d0 d1 d2 e5 e6 hm3 hl3
    obtain ⟨_, a0, a1, a2⟩ := A.below hb4
    obtain ⟨_, d0, d1, d2⟩ := D.below hb4
    replace hb := below_on hb hb4
    clear hb4 A D
    go_wp2
    go_ret
    exact ⟨rfl, hb⟩
end Go.Proofs.YtedlohapoafkjaaDoor
