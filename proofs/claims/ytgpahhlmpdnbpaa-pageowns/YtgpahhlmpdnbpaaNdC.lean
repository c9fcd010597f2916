/-
  Which nodes are right: rising, numbered, sound, Right; the document's Shaped.
-/
import Derived.Test.YtgpahhlmpdnbpaaNdB
namespace Go.Proofs.Ytgpahhlmpdnbpaa
open Go.RowKit

theorem bytesLess_lt (x : List UInt8) : ∀ y, Op.bytesLess x y = decide (x < y) := by
  induction x with
  | nil => intro y; cases y <;> simp [Op.bytesLess]
  | cons a x ih =>
    intro y
    cases y with
    | nil => simp [Op.bytesLess]
    | cons b y =>
      rw [Op.bytesLess, ih, Bool.eq_iff_iff]
      simp [List.cons_lt_cons_iff]

/-- At most is: not above. -/
theorem le_not_lt (x y : List UInt8) : (Op.bytesLess x y || x == y) = !Op.bytesLess y x := by
  rw [bytesLess_lt, bytesLess_lt, Bool.eq_iff_iff]
  simp only [Bool.or_eq_true, decide_eq_true_eq, beq_iff_eq, Bool.not_eq_true', decide_eq_false_iff_not]
  constructor
  · rintro (h | rfl)
    · exact fun h2 => List.lt_irrefl x (List.lt_trans h h2)
    · exact List.lt_irrefl x
  · intro h
    have h1 : x ≤ y := List.not_lt.1 h
    by_cases e : x = y
    · exact Or.inr e
    · left
      exact Classical.byContradiction fun h2 => e (List.le_antisymm h1 (List.not_lt.1 h2))

theorem empty_size (s : ByteArray) : (s.toList == []) = decide (s.size = 0) := by
  rw [Bool.eq_iff_iff]
  simp only [beq_iff_eq, decide_eq_true_eq]
  rw [ByteArray.toList_eq]
  constructor
  · intro h
    have := congrArg List.length h
    simpa using this
  · intro h
    apply List.eq_nil_of_length_eq_zero
    simpa using h

theorem isEmpty_size (s : ByteArray) : s.toList.isEmpty = decide (s.size = 0) := by
  rw [← empty_size]
  cases s.toList <;> rfl

def risesB (l : List ByteArray) : Bool := (List.range l.length).all (recOk l)
def numbB (n : No) : Bool := if n.leaf then n.kids.length == 0 else n.kids.all kidOk && n.kids.length == n.recs.length + 1

theorem shaped_eq (n : No) : n.shaped = (risesB n.recs && numbB n) := by
  unfold No.shaped risesB numbB
  cases n.leaf
  · simp [Bool.and_assoc]
  · simp only [if_true, Bool.and_assoc]
    congr 1
    cases h : n.kids with
    | nil => rfl
    | cons x l => simp

/-- The entry j, held against the one ahead of it. -/
theorem recOk_zero (l : List ByteArray) (h : 0 < l.length) : recOk l 0 = (decide (1 ≤ l[0].size) && decide (l[0].size ≤ 400)) := by
  unfold recOk
  rw [List.getElem?_eq_getElem h]
  simp

theorem recOk_succ (l : List ByteArray) (j : Nat) (h : j + 1 < l.length) : recOk l (j + 1) = (decide (1 ≤ l[j + 1].size) && decide (l[j + 1].size ≤ 400) && Op.bytesLess l[j].toList l[j + 1].toList) := by
  unfold recOk
  rw [List.getElem?_eq_getElem h]
  have : (j + 1 == 0) = false := by simp
  simp only [this, Bool.false_or, Nat.add_sub_cancel]
  rw [List.getElem?_eq_getElem (by omega)]
  rfl

theorem rises_of (l : List ByteArray) (h : ∀ i, i < l.length → recOk l i = true) : risesB l = true :=
  List.all_eq_true.2 fun i hi => h i (by simpa using hi)

theorem rises_not (l : List ByteArray) (j : Nat) (hj : j < l.length) (h : recOk l j = false) : risesB l = false :=
  List.all_eq_false.2 ⟨j, by simpa using hj, by simp [h]⟩

/-- What is asked of an entry, one by one. -/
inductive RecCase (l : List ByteArray) (j : Nat) (s : ByteArray) : Prop
  | empty (h : s.size = 0) (no : recOk l j = false)
  | long (h : 400 < s.size) (no : recOk l j = false)
  | first (h0 : j = 0) (h : 1 ≤ s.size) (h' : s.size ≤ 400) (ok : recOk l j = true)
  | above (p : ByteArray) (h0 : 0 < j) (hp : l[j - 1]? = some p) (h : 1 ≤ s.size) (h' : s.size ≤ 400) (hl : Op.bytesLess p.toList s.toList = true) (ok : recOk l j = true)
  | below (p : ByteArray) (h0 : 0 < j) (hp : l[j - 1]? = some p) (h : 1 ≤ s.size) (h' : s.size ≤ 400) (hl : Op.bytesLess p.toList s.toList = false) (no : recOk l j = false)

theorem rec_cases (l : List ByteArray) (j : Nat) (hj : j < l.length) : RecCase l j l[j] := by
  by_cases h1 : l[j].size = 0
  · refine .empty h1 ?_
    unfold recOk
    rw [List.getElem?_eq_getElem hj]
    simp [h1]
  by_cases h2 : 400 < l[j].size
  · refine .long h2 ?_
    unfold recOk
    rw [List.getElem?_eq_getElem hj]
    have : decide (l[j].size ≤ 400) = false := by simp; omega
    simp [this]
  have e1 : decide (1 ≤ l[j].size) = true := by simp; omega
  have e2 : decide (l[j].size ≤ 400) = true := by simp; omega
  cases j with
  | zero => exact .first rfl (by omega) (by omega) (by rw [recOk_zero l hj, e1, e2]; rfl)
  | succ j =>
    have hp : l[j + 1 - 1]? = some l[j] := by rw [Nat.add_sub_cancel]; exact List.getElem?_eq_getElem (by omega)
    cases hb : Op.bytesLess l[j].toList l[j + 1].toList
    · exact .below l[j] (by omega) hp (by omega) (by omega) hb (by rw [recOk_succ l j hj, e1, e2, hb]; rfl)
    · exact .above l[j] (by omega) hp (by omega) (by omega) hb (by rw [recOk_succ l j hj, e1, e2, hb]; rfl)

set_option maxRecDepth 100000 in
set_option maxHeartbeats 1000000 in
theorem rising_walk {l : List ByteArray} {a : Option Addr} {c : Nat} {w : World} (hr : Rd w a c (svs l)) (h1 : l.length ≤ 1000) :
    Calls Try.prog 28 #[.slice a l.length c] w fun e w' => e = .returned (.bool (risesB l)) ∧ w' = w := by
  have HR : Hid (Rd w a c (svs l)) := hr
  clear hr
  go_enter Try.func28, Try.ntmps28
  go_wp2
  go_loop [7] (fun i => ∃ j : Nat, j ≤ l.length ∧ i = .int .i64 (j : Int) ∧ Hid (∀ i, i < j → recOk l i = true)) (fun i => l.length - (intOf i).toNat)
  case atStart => exact ⟨0, Nat.zero_le _, rfl, fun i h => by omega⟩
  case round =>
    obtain ⟨j, hj, rfl, HI⟩ := hrel
    by_cases hlt : j < l.length
    · obtain ⟨b, o, rfl, hb, hc⟩ := HR.out.str j hlt
      have hlt' : (j : Int) < (l.length : Int) := by omega
      have HC := rec_cases l j hlt
      have HN : Hid (recOk l j = false → risesB l = false) := rises_not l j hlt
      have HS : Hid (recOk l j = true → ∀ i, i < j + 1 → recOk l i = true) := fun h i hi => by
        by_cases e : i = j
        · rw [e]; exact h
        · exact HI.out i (by omega)
      generalize l[j] = s at *
      have hem := isEmpty_size s
      rcases HC with ⟨h, no⟩ | ⟨h, no⟩ | ⟨h0, h, h', ok⟩ | ⟨p, h0, hp, h, h', hl, ok⟩ | ⟨p, h0, hp, h, h', hl, no⟩
      · have hn : Hid _ := HN.out no
        clear HN HS HI no
        rw [h] at hem
        have hem' : s.toList.isEmpty = true := hem
        clear hem
        go_wp2
        go_ret
        exact ⟨ret_bool hn.out.symm, rfl⟩
      · have hn : Hid _ := HN.out no
        clear HN HS HI no
        have hem' : s.toList.isEmpty = false := by rw [hem]; exact decide_eq_false (by omega)
        have h'' : (400 : Int) < (s.size : Int) := by omega
        clear hem
        go_wp2
        go_ret
        exact ⟨ret_bool hn.out.symm, rfl⟩
      · have HT : Hid _ := HS.out ok
        clear HN HS HI ok
        have hem' : s.toList.isEmpty = false := by rw [hem]; exact decide_eq_false (by omega)
        have h'' : (s.size : Int) ≤ 400 := by omega
        have h0' : (j : Int) ≤ 0 := by omega
        clear hem h0
        go_wp2
        go_round
        case rel => exact ⟨j + 1, hlt, by go_num, HT⟩
        case measure => simp [intOf]; omega
      · have HT : Hid _ := HS.out ok
        clear HN HS HI ok
        have hem' : s.toList.isEmpty = false := by rw [hem]; exact decide_eq_false (by omega)
        have h'' : (s.size : Int) ≤ 400 := by omega
        have h0' : (0 : Int) < (j : Int) := by omega
        have hle := le_not_lt s.toList p.toList
        rw [hl] at hle
        simp only [Bool.not_true, Bool.or_eq_false_iff] at hle
        obtain ⟨hle1, hle2⟩ := hle
        obtain ⟨b', o', e', _, hc'⟩ := HR.out.2.2 (j - 1) (.string p) (by simp [svs, hp])
        cases e'
        have hj1 : ((j : Int) - 1).toNat = j - 1 := by omega
        have hj2 : (0 : Int) ≤ (j : Int) - 1 := by omega
        have hj3 : (j : Int) - 1 < (l.length : Int) := by omega
        clear hem hl hp
        go_wp2
        go_round
        case rel => exact ⟨j + 1, hlt, by go_num, HT⟩
        case measure => simp [intOf]; omega
      · have hn : Hid _ := HN.out no
        clear HN HS HI no
        have hem' : s.toList.isEmpty = false := by rw [hem]; exact decide_eq_false (by omega)
        have h'' : (s.size : Int) ≤ 400 := by omega
        have h0' : (0 : Int) < (j : Int) := by omega
        have hle := le_not_lt s.toList p.toList
        rw [hl] at hle
        simp only [Bool.not_false] at hle
        obtain ⟨b', o', e', _, hc'⟩ := HR.out.2.2 (j - 1) (.string p) (by simp [svs, hp])
        cases e'
        have hj1 : ((j : Int) - 1).toNat = j - 1 := by omega
        have hj2 : (0 : Int) ≤ (j : Int) - 1 := by omega
        have hj3 : (j : Int) - 1 < (l.length : Int) := by omega
        clear hem hl hp
        cases hb1 : Op.bytesLess s.toList p.toList
        · rw [hb1, Bool.false_or] at hle
          go_wp2
          go_ret
          exact ⟨ret_bool hn.out.symm, rfl⟩
        · clear hle
          go_wp2
          go_ret
          exact ⟨ret_bool hn.out.symm, rfl⟩
    · have hlt' : (l.length : Int) ≤ (j : Int) := by omega
      have hn : Hid _ := rises_of l fun i hi => HI.out i (by omega)
      clear HI
      go_wp2
      go_ret
      exact ⟨ret_bool hn.out.symm, rfl⟩
end Go.Proofs.Ytgpahhlmpdnbpaa
