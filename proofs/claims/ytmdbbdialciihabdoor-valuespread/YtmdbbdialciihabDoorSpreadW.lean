/-
  The walk of ValueSpread.
-/
import Derived.Test.YtmdbbdialciihabDoorSpreadA
namespace Go.Proofs.YtmdbbdialciihabDoor
open Go.RowKit

theorem num_agg (n : Int) (w : World) : Calls Tryd.prog 7 #[.int .i64 n] w fun e w' => e = .returned (.agg #[.int .i64 2, .int .i64 n, .string ⟨#[]⟩]) ∧ Below w.heap.size w w' := num_walk n w

theorem ne_is (v : Int) : ne v = if fits v then 0 else 7 := rfl
theorem ce_is (ok : Bool) (v : Int) : ce ok v = if ok && fits v then 0 else 7 := by
  cases ok
  · rfl
  · simp [ce, ne]

set_option maxRecDepth 100000 in
set_option maxHeartbeats 4000000 in
theorem spread_walk (a b c : Int) (ha : fits a = true) (hb : fits b = true) (hc : fits c = true) (m : Int) (w : World) (hl : 1 < w.heap.size) (hm : w.cell? ⟨1, 0, none⟩ = some (.int .i64 m)) :
    Calls Tryd.prog 3 #[.int .i64 a, .int .i64 b, .int .i64 c] w fun e w' => e = .returned (.bool true) ∧ Below w.heap.size w w' := by
  go_enter Tryd.func3, Tryd.ntmps3
  go_wp2_with fail
  refine (awake_walk m _ hl hm).mono ?_
  rintro e w1 ⟨rfl, B⟩
  clear hm hl
  go_wp2_with (go_at_call 7; refine (num_walk _ _).mono ?_; rintro e w2 ⟨rfl, B2⟩; replace B := below_on B B2; clear B2)
  refine (op_walk ⟨#[43]⟩ 2 b 2 c 0 true b c (b + c) known_plus (op_plus b c) rfl (fun _ => ⟨rfl, rfl, rfl, rfl, hb, hc⟩) _).mono ?_
  rintro e u1 ⟨rfl, B2⟩
  replace B := below_on B B2
  clear B2
  have S := boxed_new u1 (ck true (b + c)) (cn true (b + c)) ⟨#[]⟩ 24
  replace B := below_on B (below_alloc _ (.cells #[.int .i64 (ck true (b + c)), .int .i64 (cn true (b + c)), .string ⟨#[]⟩] 24))
  unfold valV
  obtain ⟨_, x1, y1, z1⟩ := id S
  have leS := B.size
  rw [size_new] at leS
  go_upto_region 5 with fail
  go_cut [9, 10] (fun s9 s10 wx => ∃ p, s10 = .pointer (some ⟨p, 0, none⟩) ∧ s9 = .int .i64 (ce (fits (b + c)) (a * (b + c))) ∧ Boxed wx p (ck (fits (b + c)) (a * (b + c))) (cn (fits (b + c)) (a * (b + c))) ⟨#[]⟩ ∧ Below w.heap.size w wx)
  case first =>
    have ho : Hid (∀ x, _) := fun x => op_walk ⟨#[42]⟩ 2 a (ck true (b + c)) (cn true (b + c)) (ce true (b + c)) (fits (b + c)) a (b + c) (a * (b + c)) known_times (op_times a (b + c)) (ne_is (b + c)) (fun h => ⟨rfl, rfl, by simp [ck, nk, h], by simp [cn, nn, h], ha, h⟩) x
    obtain ⟨_, xa, ya, za⟩ := S.below (below_alloc _ (.cells #[.int .i64 0, .int .i64 0, .string ⟨#[]⟩] 24))
    go_region_with (first
      | (go_at_call 7; refine (num_walk _ _).mono ?_; rintro e w2 ⟨rfl, B2⟩; replace S := (S.below (below_drew _)).below B2; obtain ⟨_, x1, y1, z1⟩ := id S; replace B := below_on (below_on B (below_drew _)) B2; clear B2; unfold valV)
      | (go_at_call 7; refine (num_walk _ _).mono ?_; rintro e w2 ⟨rfl, B2⟩; replace S := ((S.below (below_alloc _ _)).below (below_drew _)).below B2; obtain ⟨_, x1, y1, z1⟩ := id S; have N := ((boxed_new _ _ _ _ _).below (below_drew _)).below B2; have F := ((free_new _ _ _ _ _).below (below_drew _)).below B2; rw [size_new] at N F; obtain ⟨_, n1, n2, n3⟩ := id N; obtain ⟨_, f1, f2, f3⟩ := id F; replace B := below_on (below_on (below_on B (below_alloc _ _)) (below_drew _)) B2; clear B2; unfold valV)
      | (go_at_call 5; refine (ho.out _).mono ?_; rintro e w3 ⟨rfl, B2⟩; have le2 := B.size; replace B := below_on B B2; (try (replace N := N.below B2; replace F := F.below B2; obtain ⟨_, n1, n2, n3⟩ := id N; obtain ⟨_, f1, f2, f3⟩ := id F)); clear B2; unfold valV)
      | (go_at_call 5; refine (ho.out _).mono ?_; rintro e w3 ⟨rfl, B2⟩; have le2 := B.size; replace B := below_on (below_on B (below_alloc _ _)) B2; have N := (boxed_new _ _ _ _ _).below B2; have F := (free_new _ _ _ _ _).below B2; obtain ⟨_, n1, n2, n3⟩ := id N; obtain ⟨_, f1, f2, f3⟩ := id F; clear B2; unfold valV))
    all_goals go_wp2_with fail
    all_goals go_meet
    all_goals first
      | exact ⟨_, rfl, rfl, boxed_new _ _ _ _ _, below_on B (below_alloc _ _)⟩
      | exact ⟨_, rfl, rfl, boxed_store N _ _ _, below_store B le2 _ _ _⟩
      | exact ⟨_, rfl, rfl, boxed_store N _ _ _, below_store B leS _ _ _⟩
  case rest =>
  obtain ⟨p, rfl, rfl, P, C⟩ := hcut
  clear S B x1 y1 z1 leS
  have B := C
  clear C
  go_wp2_with (go_at_call 7; refine (num_walk _ _).mono ?_; rintro e w2 ⟨rfl, B2⟩; replace P := P.below B2; replace B := below_on B B2; clear B2)
  refine (op_walk ⟨#[42]⟩ 2 a 2 b 0 true a b (a * b) known_times (op_times a b) rfl (fun _ => ⟨rfl, rfl, rfl, rfl, ha, hb⟩) _).mono ?_
  rintro e u2 ⟨rfl, B2⟩
  replace P := P.below B2
  replace B := below_on B B2
  clear B2
  replace P := P.below (below_alloc _ (.cells #[.int .i64 (ck true (a * b)), .int .i64 (cn true (a * b)), .string ⟨#[]⟩] 24))
  have X := boxed_new u2 (ck true (a * b)) (cn true (a * b)) ⟨#[]⟩ 24
  replace B := below_on B (below_alloc _ (.cells #[.int .i64 (ck true (a * b)), .int .i64 (cn true (a * b)), .string ⟨#[]⟩] 24))
  unfold valV
  go_wp2_with (go_at_call 7; refine (num_walk _ _).mono ?_; rintro e w2 ⟨rfl, B2⟩; replace P := P.below B2; replace X := X.below B2; replace B := below_on B B2; clear B2)
  refine (op_walk ⟨#[42]⟩ 2 a 2 c (ce true (a * b)) (fits (a * b)) a c (a * c) known_times (op_times a c) (ne_is (a * b)) (fun _ => ⟨rfl, rfl, rfl, rfl, ha, hc⟩) _).mono ?_
  rintro e u3 ⟨rfl, B2⟩
  replace P := P.below B2
  replace X := X.below B2
  replace B := below_on B B2
  clear B2
  replace P := P.below (below_alloc _ (.cells #[.int .i64 (ck (fits (a * b)) (a * c)), .int .i64 (cn (fits (a * b)) (a * c)), .string ⟨#[]⟩] 24))
  replace X := X.below (below_alloc _ (.cells #[.int .i64 (ck (fits (a * b)) (a * c)), .int .i64 (cn (fits (a * b)) (a * c)), .string ⟨#[]⟩] 24))
  have Y := boxed_new u3 (ck (fits (a * b)) (a * c)) (cn (fits (a * b)) (a * c)) ⟨#[]⟩ 24
  replace B := below_on B (below_alloc _ (.cells #[.int .i64 (ck (fits (a * b)) (a * c)), .int .i64 (cn (fits (a * b)) (a * c)), .string ⟨#[]⟩] 24))
  unfold valV
  obtain ⟨_, x1, x2, x3⟩ := id X
  obtain ⟨_, y1, y2, y3⟩ := id Y
  go_wp2_with (fail)
  refine (op_walk ⟨#[43]⟩ (ck true (a * b)) (cn true (a * b)) (ck (fits (a * b)) (a * c)) (cn (fits (a * b)) (a * c)) (ce (fits (a * b)) (a * c)) (fits (a * b) && fits (a * c)) (a * b) (a * c) (a * b + a * c) known_plus (op_plus (a * b) (a * c)) (ce_is (fits (a * b)) (a * c)) (fun h => by rw [Bool.and_eq_true] at h; exact ⟨by simp [ck, nk, h.1], by simp [cn, nn, h.1], by simp [ck, nk, h.1, h.2], by simp [cn, nn, h.1, h.2], h.1, h.2⟩) _).mono ?_
  rintro e u4 ⟨rfl, B2⟩
  replace P := P.below B2
  replace X := X.below B2
  replace Y := Y.below B2
  replace B := below_on B B2
  clear B2
  replace P := P.below (below_alloc _ (.cells #[.int .i64 (ck (fits (a * b) && fits (a * c)) (a * b + a * c)), .int .i64 (cn (fits (a * b) && fits (a * c)) (a * b + a * c)), .string ⟨#[]⟩] 24))
  replace X := X.below (below_alloc _ (.cells #[.int .i64 (ck (fits (a * b) && fits (a * c)) (a * b + a * c)), .int .i64 (cn (fits (a * b) && fits (a * c)) (a * b + a * c)), .string ⟨#[]⟩] 24))
  replace Y := Y.below (below_alloc _ (.cells #[.int .i64 (ck (fits (a * b) && fits (a * c)) (a * b + a * c)), .int .i64 (cn (fits (a * b) && fits (a * c)) (a * b + a * c)), .string ⟨#[]⟩] 24))
  have Q := boxed_new u4 (ck (fits (a * b) && fits (a * c)) (a * b + a * c)) (cn (fits (a * b) && fits (a * c)) (a * b + a * c)) ⟨#[]⟩ 24
  replace B := below_on B (below_alloc _ (.cells #[.int .i64 (ck (fits (a * b) && fits (a * c)) (a * b + a * c)), .int .i64 (cn (fits (a * b) && fits (a * c)) (a * b + a * c)), .string ⟨#[]⟩] 24))
  unfold valV
  clear x1 x2 x3 y1 y2 y3 X Y
  obtain ⟨_, p1, p2, p3⟩ := id P
  obtain ⟨_, q1, q2, q3⟩ := id Q
  have same : (ce (fits (b + c)) (a * (b + c)) == 0) = true → (ce (fits (a * b) && fits (a * c)) (a * b + a * c) == 0) = true → ck (fits (b + c)) (a * (b + c)) = ck (fits (a * b) && fits (a * c)) (a * b + a * c) ∧ cn (fits (b + c)) (a * (b + c)) = cn (fits (a * b) && fits (a * c)) (a * b + a * c) := by
    intro h1 h2
    rw [ce_is, beq_iff_eq] at h1 h2
    have g1 : (fits (b + c) && fits (a * (b + c))) = true := by
      cases h : (fits (b + c) && fits (a * (b + c)))
      · rw [h] at h1; cases h1
      · rfl
    have g2 : ((fits (a * b) && fits (a * c)) && fits (a * b + a * c)) = true := by
      cases h : ((fits (a * b) && fits (a * c)) && fits (a * b + a * c))
      · rw [h] at h2; cases h2
      · rfl
    rw [Bool.and_eq_true] at g1 g2
    rw [g1.1, g2.1, Int.mul_add]
    exact ⟨rfl, rfl⟩
  generalize ce (fits (b + c)) (a * (b + c)) = E1 at *
  generalize ce (fits (a * b) && fits (a * c)) (a * b + a * c) = E2 at *
  generalize ck (fits (b + c)) (a * (b + c)) = K1 at *
  generalize cn (fits (b + c)) (a * (b + c)) = N1 at *
  generalize ck (fits (a * b) && fits (a * c)) (a * b + a * c) = K2 at *
  generalize cn (fits (a * b) && fits (a * c)) (a * b + a * c) = N2 at *
  have past : ∀ (Z : Prop), ((E1 == 0) = false → Z) → ((E1 == 0) = true → (E2 == 0) = false → Z) → ((E1 == 0) = true → (E2 == 0) = true → K1 = K2 → N1 = N2 → Z) → Z := by
    intro Z z1 z2 z3
    cases h1 : (E1 == 0)
    · exact z1 h1
    · cases h2 : (E2 == 0)
      · exact z2 h1 h2
      · exact z3 h1 h2 (same h1 h2).1 (same h1 h2).2
  clear same
  go_upto_region 9 with fail
  go_cut [79] (fun s79 wx => s79 = .bool false ∧ Below w.heap.size w wx)
  case first =>
    refine past _ (fun h1 => ?_) (fun h1 h2 => ?_) (fun h1 h2 h3 h4 => ?_)
    · go_wp2_with fail
      go_meet
      exact ⟨rfl, B⟩
    · go_wp2_with fail
      go_meet
      exact ⟨rfl, B⟩
    · subst h3 h4
      go_wp2_with fail
      go_meet
      exact ⟨rfl, B⟩
  case rest =>
  obtain ⟨rfl, C⟩ := hcut
  clear P Q B p1 p2 p3 q1 q2 q3 past
  have B := C
  clear C
  have g0 : ne a = 0 := by simp [ne, ha]
  have g1 : nk a = 2 := by simp [nk, ha]
  have g2 : nn a = a := by simp [nn, ha]
  go_wp2_with (go_at_call 7; refine (num_walk _ _).mono ?_; rintro e w2 ⟨rfl, B2⟩; replace B := below_on B B2; clear B2)
  refine (reckon_num ⟨#[43]⟩ a 0 a known_plus ((op_plus a 0).trans (Int.add_zero a)) ha rfl _).mono ?_
  rintro e v1 ⟨rfl, B2⟩
  rw [g0, g1, g2]
  replace B := below_on B B2
  clear B2
  have Z0 := boxed_new v1 (2) (a) ⟨#[]⟩ 24
  replace B := below_on B (below_alloc _ (.cells #[.int .i64 (2), .int .i64 (a), .string ⟨#[]⟩] 24))
  unfold valV
  go_wp2_with (go_at_call 7; refine (num_walk _ _).mono ?_; rintro e w2 ⟨rfl, B2⟩; replace Z0 := Z0.below B2; replace B := below_on B B2; clear B2)
  refine (reckon_num ⟨#[42]⟩ a 1 a known_times ((op_times a 1).trans (Int.mul_one a)) ha rfl _).mono ?_
  rintro e v2 ⟨rfl, B2⟩
  rw [g0, g1, g2]
  replace Z0 := Z0.below B2
  replace B := below_on B B2
  clear B2
  replace Z0 := Z0.below (below_alloc _ (.cells #[.int .i64 (2), .int .i64 (a), .string ⟨#[]⟩] 24))
  have Z1 := boxed_new v2 (2) (a) ⟨#[]⟩ 24
  replace B := below_on B (below_alloc _ (.cells #[.int .i64 (2), .int .i64 (a), .string ⟨#[]⟩] 24))
  unfold valV
  go_wp2_with (go_at_call 7; refine (num_walk _ _).mono ?_; rintro e w2 ⟨rfl, B2⟩; replace Z0 := Z0.below B2; replace Z1 := Z1.below B2; replace B := below_on B B2; clear B2)
  refine (reckon_num ⟨#[45]⟩ a a 0 known_minus ((op_minus a a).trans (Int.sub_self a)) ha ha _).mono ?_
  rintro e v3 ⟨rfl, B2⟩
  rw [show ne 0 = 0 from rfl, show nk 0 = 2 from rfl, show nn 0 = 0 from rfl]
  replace Z0 := Z0.below B2
  replace Z1 := Z1.below B2
  replace B := below_on B B2
  clear B2
  replace Z0 := Z0.below (below_alloc _ (.cells #[.int .i64 (2), .int .i64 (0), .string ⟨#[]⟩] 24))
  replace Z1 := Z1.below (below_alloc _ (.cells #[.int .i64 (2), .int .i64 (0), .string ⟨#[]⟩] 24))
  have Z2 := boxed_new v3 (2) (0) ⟨#[]⟩ 24
  replace B := below_on B (below_alloc _ (.cells #[.int .i64 (2), .int .i64 (0), .string ⟨#[]⟩] 24))
  unfold valV
  obtain ⟨i0, i1, i2⟩ := Z0.all
  obtain ⟨j0, j1, j2⟩ := Z1.all
  obtain ⟨k0, k1, k2⟩ := Z2.all
  go_wp2
  refine wp_region_below (by kernel_rfl) (by kernel_rfl) (fun _ => ?_)
  repeat (go_big_quiet_step (first | (go_at_call 7; exact quiet_of_below (num_agg _ _))))
  refine wpQuiet_nil ?_
  rintro _ ⟨q, rfl⟩
  replace B := below_on B q.below
  go_wp2
  go_ret
  exact ⟨by simp, B⟩
end Go.Proofs.YtmdbbdialciihabDoor
