import Derived.Test.YteibhbnlcpejpaaGreatMAE
set_option maxRecDepth 100000
set_option maxHeartbeats 4000000
namespace Go.Proofs.YteibhbnlcpejpaaGreat
open Go.RowKit
theorem below_on {a b c: World} (h: Below a.heap.size a b) (k: Below b.heap.size b c): Below a.heap.size a c := h.trans (k.mono h.size)
def Boxed (w: World) (p: Nat) (k n: Int) (s: ByteArray): Prop :=
 p < w.heap.size /\ w.cell? ⟨p,0,none⟩ = some (.int .i64 k) /\ w.cell? ⟨p,1,none⟩ = some (.int .i64 n) /\ w.cell? ⟨p,2,none⟩ = some (.string s)
theorem Boxed.below {w w': World} {p: Nat} {k n: Int} {s: ByteArray} (h: Boxed w p k n s) (hb: Below w.heap.size w w'): Boxed w' p k n s := by
 obtain ⟨h0,h1,h2,h3⟩ := h
 exact ⟨Nat.lt_of_lt_of_le h0 hb.size,by rw [hb.cell h0]; exact h1,by rw [hb.cell h0]; exact h2,by rw [hb.cell h0]; exact h3⟩
def box2 (w: World) (k n: Int) (s: ByteArray) (k' n': Int) (s': ByteArray): World := (w.alloc (.cells #[.int .i64 k, .int .i64 n, .string s] 27)).alloc (.cells #[.int .i64 k', .int .i64 n', .string s'] 27)
theorem boxed_fst (w: World) (k n: Int) (s: ByteArray) (k' n': Int) (s': ByteArray): Boxed (box2 w k n s k' n' s') w.heap.size k n s := by
 refine ⟨?_, ?_, ?_, ?_⟩ <;> simp [box2,go_sem]
theorem boxed_snd (w: World) (k n: Int) (s: ByteArray) (k' n': Int) (s': ByteArray): Boxed (box2 w k n s k' n' s') (w.heap.size + 1) k' n' s' := by
 refine ⟨?_, ?_, ?_, ?_⟩ <;> simp [box2,go_sem]
theorem below_box2 (w: World) (k n: Int) (s: ByteArray) (k' n': Int) (s': ByteArray): Below w.heap.size w (box2 w k n s k' n' s') :=
 ((Below.refl _ _).alloc (Nat.le_refl _) _).alloc (by simp) _
def holdsB (op: ByteArray) (c: Int): Bool :=
 if op.toList == [61] then c == 0 else if op.toList == [60,62] then c != 0 else if op.toList == [60] then decide (c < 0) else if op.toList == [60,61] then decide (c <= 0)
 else if op.toList == [62] then decide (0 < c) else if op.toList == [62,61] then decide (0 <= c) else false
def knownB (op: ByteArray): Bool :=
 op.toList == [61] || op.toList == [60,62] || op.toList == [60] || op.toList == [60,61] || op.toList == [62] || op.toList == [62,61]
theorem stands_walk (op: ByteArray) (c: Int) (w: World): Calls Tryz.prog 218 #[.string op, .int .i64 c] w fun e w' => e = .returned (.tuple #[.bool (holdsB op c), .bool (knownB op)]) /\ w' = w := by
 go_enter Tryz.func218,Tryz.ntmps218
 go_wp2
 all_goals (go_ret2; refine ⟨?_,rfl⟩; simp_all [holdsB,knownB])
def holdsT (op: ByteArray) (k n: Int) (s: ByteArray) (k' n': Int) (s': ByteArray): Int :=
 if !knownB op || !rightB k n s || !rightB k' n' s' then 0 else if k == 0 || k' == 0 then 2 else if k != k' then 0 else if holdsB op (ordI k n s k' n' s') then 1 else 0
def holdsE (op: ByteArray) (k n: Int) (s: ByteArray) (k' n': Int) (s': ByteArray): Int :=
 if !knownB op || !rightB k n s || !rightB k' n' s' then 15 else if k == 0 || k' == 0 then 0 else if k != k' then 4 else 0
theorem holds_walk (op: ByteArray) (k n: Int) (s: ByteArray) (k' n': Int) (s': ByteArray) (w: World): Calls Tryz.prog 215 #[.string op,valV k n s,valV k' n' s'] w fun e w' =>
 e = .returned (.tuple #[.int .i64 (holdsT op k n s k' n' s'), .int .i64 (holdsE op k n s k' n' s')]) /\ Below w.heap.size w w' := by
 go_enter Tryz.func215,Tryz.ntmps215
 unfold valV
 go_wp2_with fail
 refine (order_walk k n s k' n' s' _).mono ?_
 rintro e w1 ⟨rfl,hb⟩
 have A := (boxed_fst w k n s k' n' s').below hb
 have B := (boxed_snd w k n s k' n' s').below hb
 obtain ⟨_,a0,a1,a2⟩ := id A
 obtain ⟨_,b0,b1,b2⟩ := id B
 replace hb := below_on (below_box2 w k n s k' n' s') hb
 cases hk: knownB op
 · go_wp2_with (go_at_call 218; refine (stands_walk _ _ _).mono ?_; rintro e w' ⟨rfl,rfl⟩)
   go_ret2
   exact ⟨by simp [holdsT,holdsE,hk],hb⟩
 go_wp2_with (go_at_call 218; refine (stands_walk _ _ _).mono ?_; rintro e w' ⟨rfl,rfl⟩)
 refine (right_walk k n s _).mono ?_
 rintro e w2 ⟨rfl,hb2⟩
 obtain ⟨_,a0,a1,a2⟩ := A.below hb2
 obtain ⟨_,b0,b1,b2⟩ := B.below hb2
 have A2 := A.below hb2
 have B2 := B.below hb2
 replace hb := below_on hb hb2
 cases hr: rightB k n s
 · go_wp2
   go_ret2
   exact ⟨by simp [holdsT,holdsE,hr],hb⟩
 go_wp2_with fail
 refine (right_walk k' n' s' _).mono ?_
 rintro e w3 ⟨rfl,hb3⟩
 obtain ⟨_,a0,a1,a2⟩ := A2.below hb3
 obtain ⟨_,b0,b1,b2⟩ := B2.below hb3
 replace hb := below_on hb hb3
 cases hr': rightB k' n' s'
 · go_wp2
   go_ret2
   exact ⟨by simp [holdsT,holdsE,hr'],hb⟩
 go_wp2
 all_goals (go_ret2; refine ⟨?_,hb⟩; simp_all [holdsT,holdsE])
theorem rholds_walk (op: ByteArray) (k n: Int) (s: ByteArray) (k' n': Int) (s': ByteArray) (w: World): Calls Tryz.prog 129 #[.string op,valV k n s,valV k' n' s'] w fun e w' =>
 e = .returned (.tuple #[.int .i64 (holdsT op k n s k' n' s'), .int .i64 (holdsE op k n s k' n' s')]) /\ Below w.heap.size w w' := by
 go_enter Tryz.func129,Tryz.ntmps129
 unfold valV
 have hop: knownB op = false \/ op.toList = [61] \/ op.toList = [60,62] \/ op.toList = [60] \/ op.toList = [60,61] \/ op.toList = [62] \/ op.toList = [62,61] := by
  cases h: knownB op
  · simp
  · simp only [knownB,Bool.or_eq_true,beq_iff_eq] at h
    rcases h with ((((h | h) | h) | h) | h) | h <;> simp [h]
 rcases hop with h | h | h | h | h | h | h
 · have h1: (¬ op.toList = [61]) /\ (¬ op.toList = [60,62]) /\ (¬ op.toList = [60]) /\ (¬ op.toList = [60,61]) /\ (¬ op.toList = [62]) /\ (¬ op.toList = [62,61]) := by
    simp only [knownB,Bool.or_eq_false_iff,beq_eq_false_iff_ne] at h
    exact ⟨h.1.1.1.1.1,h.1.1.1.1.2,h.1.1.1.2,h.1.1.2,h.1.2,h.2⟩
   obtain ⟨g1,g2,g3,g4,g5,g6⟩ := h1
   go_wp2
   go_ret2
   exact ⟨by simp [holdsT,holdsE,h],below_box2 w k n s k' n' s'⟩
 all_goals
  have hk: knownB op = true := by simp [knownB,h]
  go_wp2_with fail
  refine (rright_walk k n s _).mono ?_
  rintro e w2 ⟨rfl,hb⟩
  have A := (boxed_fst w k n s k' n' s').below hb
  have B := (boxed_snd w k n s k' n' s').below hb
  replace hb := below_on (below_box2 w k n s k' n' s') hb
  obtain ⟨_,a0,a1,a2⟩ := id A
  obtain ⟨_,b0,b1,b2⟩ := id B
  cases hr: rightB k n s
  · go_wp2
    go_ret2
    exact ⟨by simp [holdsT,holdsE,hr],hb⟩
  go_wp2_with fail
  refine (rright_walk k' n' s' _).mono ?_
  rintro e w3 ⟨rfl,hb3⟩
  have A3 := A.below hb3
  have B3 := B.below hb3
  obtain ⟨_,a0,a1,a2⟩ := id A3
  obtain ⟨_,b0,b1,b2⟩ := id B3
  replace hb := below_on hb hb3
  cases hr': rightB k' n' s'
  · go_wp2
    go_ret2
    exact ⟨by simp [holdsT,holdsE,hr'],hb⟩
  go_wp2_with (go_at_call 118; refine (rorder_walk k n s k' n' s' _).mono ?_; rintro e w4 ⟨rfl,hb4⟩; replace hb := below_on hb hb4)
  all_goals (go_ret2; refine ⟨?_,hb⟩; simp_all [holdsT,holdsE,holdsB])
  all_goals omega
end Go.Proofs.YteibhbnlcpejpaaGreat
