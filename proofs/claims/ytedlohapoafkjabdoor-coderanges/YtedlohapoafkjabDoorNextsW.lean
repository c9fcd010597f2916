/-
  The walk of CodeNexts.
-/
import Derived.Laws.Cover1
import Derived.Test.YtedlohapoafkjabDoorCodeC
namespace Go.Proofs.YtedlohapoafkjabDoor
open Go.RowKit

theorem bytesLess_lt (x : List UInt8) : ∀ y, Op.bytesLess x y = decide (x < y) := by
  induction x with
  | nil => intro y; cases y <;> simp [Op.bytesLess]
  | cons a x ih =>
    intro y
    cases y with
    | nil => simp [Op.bytesLess]
    | cons b y =>
      rw [Op.bytesLess, ih, Bool.eq_iff_iff]
      simp [List.cons_lt_cons_iff]

theorem strB_toList (l : List UInt8) : (strB l).toList = l := by rw [ByteArray.toList_eq]; rfl

theorem nexts_bool {s t : ByteArray} {x : List UInt8} (h : s.data.toList <+: t.data.toList ↔ ¬ t.data.toList < s.data.toList ∧ (x = [] ∨ t.data.toList < x)) :
    (s.size ≤ t.size → ((t.extract 0 s.size).toList == s.toList) = (!Op.bytesLess t.toList s.toList && ((strB x).toList.isEmpty || Op.bytesLess t.toList (strB x).toList))) ∧
    (¬ s.size ≤ t.size → (!Op.bytesLess t.toList s.toList && ((strB x).toList.isEmpty || Op.bytesLess t.toList (strB x).toList)) = false) := by
  have e2 : (!Op.bytesLess t.toList s.toList && ((strB x).toList.isEmpty || Op.bytesLess t.toList (strB x).toList)) = decide (s.data.toList <+: t.data.toList) := by
    rw [strB_toList, bytesLess_lt, bytesLess_lt, ByteArray.toList_eq, ByteArray.toList_eq, Bool.eq_iff_iff]
    simp only [Bool.and_eq_true, Bool.or_eq_true, Bool.not_eq_true', decide_eq_true_eq, decide_eq_false_iff_not, List.isEmpty_iff]
    exact h.symm
  rw [e2]
  constructor
  · intro hle
    rw [extract_take, strB_toList, ByteArray.toList_eq, Bool.eq_iff_iff]
    simp only [beq_iff_eq, decide_eq_true_eq]
    have hlen : s.size = s.data.toList.length := rfl
    rw [hlen, eq_comm, ← List.prefix_iff_eq_take]
  · intro hle
    rw [decide_eq_false_iff_not]
    intro hp
    exact hle hp.length_le

set_option maxRecDepth 100000 in
set_option maxHeartbeats 1000000 in
theorem nexts_walk (s t : ByteArray) (m : Int) (w : World) (hl : 0 < w.heap.size) (hm : w.cell? ⟨0, 0, none⟩ = some (.int .i64 m)) :
    Calls Tryd.prog 4 #[.string s, .string t] w fun e w' => e = .returned (.bool true) ∧ Below w.heap.size w w' := by
  go_enter Tryd.func4, Tryd.ntmps4
  go_wp2_with fail
  refine (awake_walk m _ hl hm).mono ?_
  rintro e w1 ⟨rfl, hb⟩
  by_cases h1 : 1000 < s.size
  · go_wp2
    go_ret
    exact ⟨rfl, hb⟩
  by_cases h2 : 1000 < t.size
  · have h1' : s.size ≤ 1000 := by omega
    go_wp2
    go_ret
    exact ⟨rfl, hb⟩
  have h1' : s.size ≤ 1000 := by omega
  have h2' : t.size ≤ 1000 := by omega
  clear h1 h2
  go_wp2_with fail
  refine (next_walk s (by unfold maxLen; omega) _).mono ?_
  rintro e w2 ⟨rfl, hb2⟩
  replace hb := below_on hb hb2
  go_wp2_with fail
  refine (rnext_walk s (by unfold maxLen; omega) _).mono ?_
  rintro e w3 ⟨rfl, hb3⟩
  replace hb := below_on hb hb3
  obtain ⟨b1, b2⟩ := nexts_bool (nextL_spec s.data.toList t.data.toList)
  generalize nextL s.data.toList = x at *
  by_cases h3 : s.size ≤ t.size
  · replace b1 := b1 h3
    clear b2
    cases c1 : Op.bytesLess t.toList s.toList <;> cases c2 : (strB x).toList.isEmpty <;> cases c3 : Op.bytesLess t.toList (strB x).toList
    all_goals
      rw [c1, c2, c3] at b1
      simp only [Bool.not_true, Bool.not_false, Bool.true_and, Bool.false_and, Bool.or_true, Bool.or_false] at b1
      go_wp2
      go_ret
      exact ⟨rfl, hb⟩
  · replace b2 := b2 h3
    clear b1
    cases c1 : Op.bytesLess t.toList s.toList <;> cases c2 : (strB x).toList.isEmpty <;> cases c3 : Op.bytesLess t.toList (strB x).toList
    all_goals
      rw [c1, c2, c3] at b2
      first
        | (exfalso; revert b2; decide)
        | (clear b2
           go_wp2
           go_ret
           exact ⟨rfl, hb⟩)
end Go.Proofs.YtedlohapoafkjabDoor
