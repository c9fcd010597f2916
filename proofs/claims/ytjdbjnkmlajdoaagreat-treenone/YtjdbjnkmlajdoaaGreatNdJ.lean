/-
  Find, Kid; the document's Below.
-/
import Derived.Test.YtjdbjnkmlajdoaaGreatNdI
namespace Go.Proofs.YtjdbjnkmlajdoaaGreat.L5
open Go.RowKit

def ltB (s r : ByteArray) : Bool := Op.bytesLess r.toList s.toList
def leB (s r : ByteArray) : Bool := Op.bytesLess r.toList s.toList || r.toList == s.toList
def isAt (l : List ByteArray) (s : ByteArray) (k : Nat) : Bool := match l[k]? with | some r => r.toList == s.toList | none => false
/-- How many entries are below s: the first ones. -/
def firstN (l : List ByteArray) (s : ByteArray) : Nat := (l.takeWhile (ltB s)).length

theorem firstN_le (l : List ByteArray) (s : ByteArray) : firstN l s ≤ l.length := List.takeWhile_sublist _ |>.length_le

theorem first_lt (l : List ByteArray) (s : ByteArray) : ∀ i (h : i < l.length), i < firstN l s → ltB s l[i] = true := by
  unfold firstN
  induction l with
  | nil => intro i h; simp at h
  | cons x l ih =>
    intro i h hi
    rw [List.takeWhile_cons] at hi
    split at hi
    · rename_i hx
      cases i with
      | zero => exact hx
      | succ i => exact ih i (by simpa using h) (by simpa using hi)
    · simp at hi

theorem first_ge (l : List ByteArray) (s : ByteArray) : ∀ (h : firstN l s < l.length), ltB s l[firstN l s] = false := by
  unfold firstN
  induction l with
  | nil => intro h; simp at h
  | cons x l ih =>
    intro h
    by_cases hx : ltB s x = true
    · simp only [List.takeWhile_cons, hx, if_true, List.length_cons] at h ⊢
      exact ih (by simpa using h)
    · simp only [List.takeWhile_cons, hx]
      simpa using hx

theorem count_cut (l : List ByteArray) (p : ByteArray → Bool) : ∀ k, k ≤ l.length → (∀ i (h : i < l.length), i < k → p l[i] = true) → (∀ i (h : i < l.length), k ≤ i → p l[i] = false) → l.countP p = k := by
  induction l with
  | nil => intro k hk _ _; simp at hk; simp [hk]
  | cons x l ih =>
    intro k hk h1 h2
    cases k with
    | zero =>
      rw [List.countP_eq_zero]
      intro y hy
      obtain ⟨i, hi, rfl⟩ := List.getElem_of_mem hy
      simp [h2 i hi (Nat.zero_le _)]
    | succ k =>
      have hx : p x = true := h1 0 (by simp) (by omega)
      rw [List.countP_cons, if_pos hx, ih k (by simpa using hk) (fun i hi hik => h1 (i + 1) (by simpa using hi) (by omega)) (fun i hi hik => h2 (i + 1) (by simpa using hi) (by omega))]

theorem lt_trans_b {x y z : List UInt8} (h1 : Op.bytesLess x y = true) (h2 : Op.bytesLess y z = true) : Op.bytesLess x z = true := by
  rw [bytesLess_lt, decide_eq_true_eq] at *
  exact List.lt_trans h1 h2

theorem lt_irrefl_b (x : List UInt8) : Op.bytesLess x x = false := by
  rw [bytesLess_lt]; exact decide_eq_false (List.lt_irrefl x)

theorem le_lt_b {x y z : List UInt8} (h1 : Op.bytesLess y x = false) (h2 : Op.bytesLess y z = true) : Op.bytesLess x z = true := by
  have := le_not_lt x y
  rw [h1] at this
  simp only [Bool.not_false, Bool.or_eq_true, beq_iff_eq] at this
  rcases this with h | h
  · exact lt_trans_b h h2
  · rw [h]; exact h2

/-- Entries that rise rise over any distance. -/
theorem rises_lt {l : List ByteArray} (h : risesB l = true) : ∀ j i (_ : i < j) (hj : j < l.length), Op.bytesLess l[i].toList l[j].toList = true := by
  have h0 : ∀ i (hi : i + 1 < l.length), Op.bytesLess l[i].toList l[i + 1].toList = true := fun i hi => by
    have := List.all_eq_true.1 h (i + 1) (by simpa using hi)
    rw [recOk_succ l i hi] at this
    simp only [Bool.and_eq_true] at this
    exact this.2
  intro j
  induction j with
  | zero => intro i hi; omega
  | succ j ih =>
    intro i hi hj
    by_cases e : i = j
    · subst e; exact h0 i hj
    · exact lt_trans_b (ih i (by omega) (by omega)) (h0 j hj)

theorem count_lt {l : List ByteArray} (h : risesB l = true) (s : ByteArray) : l.countP (ltB s) = firstN l s := by
  refine count_cut l _ _ (firstN_le l s) (first_lt l s) fun i hi hk => ?_
  have h1 := first_ge l s (by omega)
  by_cases e : i = firstN l s
  · subst e; exact h1
  · have h2 := rises_lt h i (firstN l s) (by omega) hi
    cases h3 : ltB s l[i]
    · rfl
    · have : ltB s l[firstN l s] = true := lt_trans_b h2 h3
      rw [h1] at this
      cases this

theorem count_le {l : List ByteArray} (h : risesB l = true) (s : ByteArray) : l.countP (leB s) = firstN l s + if isAt l s (firstN l s) then 1 else 0 := by
  have hlow : ∀ i (hi : i < l.length), i < firstN l s → leB s l[i] = true := fun i hi hk => by
    have h0 := first_lt l s i hi hk
    unfold ltB at h0
    unfold leB
    rw [h0]
    rfl
  by_cases hk : firstN l s < l.length
  · have h1 := first_ge l s hk
    have hat : isAt l s (firstN l s) = (l[firstN l s].toList == s.toList) := by
      unfold isAt; rw [List.getElem?_eq_getElem hk]
    have hle : leB s l[firstN l s] = (l[firstN l s].toList == s.toList) := by
      unfold leB
      unfold ltB at h1
      rw [h1]; rfl
    have hhigh : ∀ i (hi : i < l.length), firstN l s < i → leB s l[i] = false := fun i hi hik => by
      have h2 := rises_lt h i (firstN l s) hik hi
      unfold leB
      rw [le_not_lt]
      unfold ltB at h1
      rw [le_lt_b h1 h2]
      rfl
    cases hb : (l[firstN l s].toList == s.toList)
    · rw [hat, hb]
      refine count_cut l _ _ (by simp; omega) (fun i hi hik => hlow i hi (by simpa using hik)) fun i hi hik => ?_
      by_cases e : i = firstN l s
      · subst e; rw [hle, hb]
      · exact hhigh i hi (by simp at hik; omega)
    · rw [hat, hb]
      refine count_cut l _ _ (by simp; omega) (fun i hi hik => ?_) fun i hi hik => hhigh i hi (by simp at hik; omega)
      by_cases e : i = firstN l s
      · subst e; rw [hle, hb]
      · exact hlow i hi (by simp at hik; omega)
  · have hat : isAt l s (firstN l s) = false := by
      unfold isAt; rw [List.getElem?_eq_none (by omega)]
    rw [hat]
    have := firstN_le l s
    exact count_cut l _ _ (by simp; omega) (fun i hi hik => hlow i hi (by simpa using hik)) fun i hi hik => by simp at hik; omega

theorem countP_snoc (l : List ByteArray) (p : ByteArray → Bool) (j : Nat) (h : j < l.length) : (l.take (j + 1)).countP p = (l.take j).countP p + if p l[j] then 1 else 0 := by
  rw [List.take_succ_eq_append_getElem h, List.countP_append]
  simp [List.countP_cons]

theorem countP_take_le (l : List ByteArray) (p : ByteArray → Bool) (j : Nat) (h : l.length ≤ 1000) : (l.take j).countP p ≤ 1000 := by
  have := List.countP_le_length (p := p) (l := l.take j)
  simp at this
  omega

set_option maxRecDepth 100000 in
set_option maxHeartbeats 400000 in
theorem kid_walk {n : No} {a : Option Addr} {c : Nat} {a' : Option Addr} {c' : Nat} {w : World} (hr : NR w n a c a' c') (h1 : n.recs.length ≤ 1000) (s : ByteArray) :
    Calls Tryz.prog 79 #[nodeV n a c a' c', .string s] w fun e w' => e = .returned (.int .i64 (n.recs.countP (leB s) : Int)) ∧ Below w.heap.size w w' := by
  have HX := Bx.new w n a c a' c' 91
  have HR : Hid (Rd (w.alloc (.cells #[.bool n.leaf, .slice a n.recs.length c, .slice a' n.kids.length c'] 91)) a c (svs n.recs)) := hr.recs.below HX.below
  have x1 := HX.c1
  have xl := HX.lt
  have HB := HX.below
  clear HX
  go_enter Tryz.func79, Tryz.ntmps79
  unfold nodeV
  go_wp2
  generalize w.alloc (.cells #[.bool n.leaf, .slice a n.recs.length c, .slice a' n.kids.length c'] 91) = W at *
  go_loop [5, 11] (fun x i => ∃ j : Nat, j ≤ n.recs.length ∧ i = .int .i64 (j : Int) ∧ x = .int .i64 ((n.recs.take j).countP (leB s) : Int)) (fun _ i => n.recs.length - (intOf i).toNat)
  case atStart => exact ⟨0, Nat.zero_le _, rfl, by simp⟩
  case round =>
    obtain ⟨j, hj, rfl, rfl⟩ := hrel
    have hw := countP_take_le n.recs (leB s) j h1
    by_cases hlt : j < n.recs.length
    · obtain ⟨b, o, rfl, hb, hc⟩ := HR.out.str j hlt
      have HW : Hid _ := countP_snoc n.recs (leB s) j hlt
      have hlt' : (j : Int) < (n.recs.length : Int) := by omega
      generalize n.recs[j] = r at *
      cases hle : leB s r
      · have HW' : Hid ((n.recs.take (j + 1)).countP (leB s) = (n.recs.take j).countP (leB s)) := by have := HW.out; rw [hle] at this; exact this
        unfold leB at hle
        simp only [Bool.or_eq_false_iff] at hle
        obtain ⟨e1, e2⟩ := hle
        clear HW
        go_wp2
        go_round
        case rel => exact ⟨j + 1, hlt, by go_num, by rw [HW'.out]⟩
        case measure => simp [intOf]; omega
      · have HW' : Hid ((n.recs.take (j + 1)).countP (leB s) = (n.recs.take j).countP (leB s) + 1) := by have := HW.out; rw [hle] at this; exact this
        unfold leB at hle
        clear HW
        cases e1 : Op.bytesLess r.toList s.toList
        · rw [e1, Bool.false_or] at hle
          go_wp2
          go_round
          case rel => exact ⟨j + 1, hlt, by go_num, by rw [HW'.out]; go_num⟩
          case measure => simp [intOf]; omega
        · clear hle
          go_wp2
          go_round
          case rel => exact ⟨j + 1, hlt, by go_num, by rw [HW'.out]; go_num⟩
          case measure => simp [intOf]; omega
    · have hlt' : (n.recs.length : Int) ≤ (j : Int) := by omega
      go_wp2
      go_ret
      exact ⟨ret_int (by rw [List.take_of_length_le (by omega)]), HB⟩

set_option maxRecDepth 100000 in
set_option maxHeartbeats 400000 in
theorem find_walk {n : No} {a : Option Addr} {c : Nat} {a' : Option Addr} {c' : Nat} {w : World} (hr : NR w n a c a' c') (h1 : n.recs.length ≤ 1000) (s : ByteArray) :
    Calls Tryz.prog 54 #[nodeV n a c a' c', .string s] w fun e w' => e = .returned (.tuple #[.int .i64 (n.recs.countP (ltB s) : Int), .bool (isAt n.recs s (n.recs.countP (ltB s)))]) ∧ Below w.heap.size w w' := by
  have HX := Bx.new w n a c a' c' 91
  have HR : Hid (Rd (w.alloc (.cells #[.bool n.leaf, .slice a n.recs.length c, .slice a' n.kids.length c'] 91)) a c (svs n.recs)) := hr.recs.below HX.below
  have x1 := HX.c1
  have xl := HX.lt
  have HB := HX.below
  clear HX
  go_enter Tryz.func54, Tryz.ntmps54
  unfold nodeV
  go_wp2
  generalize w.alloc (.cells #[.bool n.leaf, .slice a n.recs.length c, .slice a' n.kids.length c'] 91) = W at *
  go_loop [6, 12] (fun x i => ∃ j : Nat, j ≤ n.recs.length ∧ i = .int .i64 (j : Int) ∧ x = .int .i64 ((n.recs.take j).countP (ltB s) : Int)) (fun _ i => n.recs.length - (intOf i).toNat)
  case atStart => exact ⟨0, Nat.zero_le _, rfl, by simp⟩
  case round =>
    obtain ⟨j, hj, rfl, rfl⟩ := hrel
    have hw := countP_take_le n.recs (ltB s) j h1
    by_cases hlt : j < n.recs.length
    · obtain ⟨b, o, rfl, hb, hc⟩ := HR.out.str j hlt
      have HW : Hid _ := countP_snoc n.recs (ltB s) j hlt
      have hlt' : (j : Int) < (n.recs.length : Int) := by omega
      generalize n.recs[j] = r at *
      cases hle : ltB s r
      · have HW' : Hid ((n.recs.take (j + 1)).countP (ltB s) = (n.recs.take j).countP (ltB s)) := by have := HW.out; rw [hle] at this; exact this
        unfold ltB at hle
        clear HW
        go_wp2
        go_round
        case rel => exact ⟨j + 1, hlt, by go_num, by rw [HW'.out]⟩
        case measure => simp [intOf]; omega
      · have HW' : Hid ((n.recs.take (j + 1)).countP (ltB s) = (n.recs.take j).countP (ltB s) + 1) := by have := HW.out; rw [hle] at this; exact this
        unfold ltB at hle
        clear HW
        go_wp2
        go_round
        case rel => exact ⟨j + 1, hlt, by go_num, by rw [HW'.out]; go_num⟩
        case measure => simp [intOf]; omega
    · have hjr : j = n.recs.length := by omega
      subst hjr
      obtain ⟨k, hk0⟩ : ∃ k, Hid (n.recs.countP (ltB s) = k) := ⟨_, rfl⟩
      rw [List.take_length, hk0.out] at hw ⊢
      by_cases hk : k < n.recs.length
      · obtain ⟨b, o, rfl, hb, hc⟩ := HR.out.str k hk
        have HA : Hid (isAt n.recs s k = (n.recs[k].toList == s.toList)) := by show _ = _; unfold isAt; rw [List.getElem?_eq_getElem hk]
        generalize n.recs[k] = r at *
        have hk' : (k : Int) < (n.recs.length : Int) := by omega
        go_wp2
        go_quiet (fail)
        go_wp2
        go_ret2
        exact ⟨by rw [hk0.out, HA.out]; rfl, below_drewN HB _⟩
      · have HA : Hid (isAt n.recs s k = false) := by show _ = _; unfold isAt; rw [List.getElem?_eq_none (by omega)]
        have hk' : decide (k < n.recs.length) = false := decide_eq_false hk
        go_wp2
        go_quiet (fail)
        go_wp2
        go_ret2
        exact ⟨by rw [hk0.out, HA.out]; rfl, below_drewN HB _⟩

set_option maxRecDepth 100000 in
set_option maxHeartbeats 400000 in
theorem below_walk {n : No} {a : Option Addr} {c : Nat} {a' : Option Addr} {c' : Nat} {w : World} (hr : NR w n a c a' c') (h1 : n.recs.length ≤ 1000) (s : ByteArray) :
    Calls Tryz.prog 49 #[nodeV n a c a' c', .string s] w fun e w' => e = .returned (.tuple #[.int .i64 (firstN n.recs s : Int), .bool (isAt n.recs s (firstN n.recs s))]) ∧ Below w.heap.size w w' := by
  have HX := Bx.new w n a c a' c' 94
  have HR : Hid (Rd (w.alloc (.cells #[.bool n.leaf, .slice a n.recs.length c, .slice a' n.kids.length c'] 94)) a c (svs n.recs)) := hr.recs.below HX.below
  have x1 := HX.c1
  have xl := HX.lt
  have HB := HX.below
  clear HX
  have hfn := firstN_le n.recs s
  go_enter Tryz.func49, Tryz.ntmps49
  unfold nodeV
  go_wp2
  generalize w.alloc (.cells #[.bool n.leaf, .slice a n.recs.length c, .slice a' n.kids.length c'] 94) = W at *
  go_loop [6] (fun x => ∃ j : Nat, j ≤ firstN n.recs s ∧ x = .int .i64 (j : Int)) (fun x => n.recs.length - (intOf x).toNat)
  case atStart => exact ⟨0, Nat.zero_le _, rfl⟩
  case round =>
    obtain ⟨j, hj, rfl⟩ := hrel
    by_cases hjk : j < firstN n.recs s
    · have hlt : j < n.recs.length := by omega
      obtain ⟨b, o, rfl, hb, hc⟩ := HR.out.str j hlt
      have hl := first_lt n.recs s j hlt hjk
      have hlt' : (j : Int) < (n.recs.length : Int) := by omega
      generalize n.recs[j] = r at *
      unfold ltB at hl
      go_wp2
      go_round
      case rel => exact ⟨j + 1, by omega, by go_num⟩
      case measure => simp [intOf]; omega
    · have hjj : Hid (j = firstN n.recs s) := by show j = _; omega
      by_cases hk : j < n.recs.length
      · obtain ⟨b, o, rfl, hb, hc⟩ := HR.out.str j hk
        have hl : ltB s n.recs[j] = false := by
          have := first_ge n.recs s (by rw [← hjj.out]; exact hk)
          simpa only [← hjj.out] using this
        have HA : Hid (isAt n.recs s j = (n.recs[j].toList == s.toList)) := by show _ = _; unfold isAt; rw [List.getElem?_eq_getElem hk]
        generalize n.recs[j] = r at *
        clear hjk hfn hj
        unfold ltB at hl
        have hk' : (j : Int) < (n.recs.length : Int) := by omega
        go_wp2
        go_quiet (fail)
        go_wp2
        go_ret2
        exact ⟨by rw [← hjj.out, HA.out]; rfl, below_drewN HB _⟩
      · have HA : Hid (isAt n.recs s j = false) := by show _ = _; unfold isAt; rw [List.getElem?_eq_none (by omega)]
        clear hjk hfn hj
        have hk' : decide (j < n.recs.length) = false := decide_eq_false hk
        go_wp2
        go_quiet (fail)
        go_wp2
        go_ret2
        exact ⟨by rw [← hjj.out, HA.out]; rfl, below_drewN HB _⟩
end Go.Proofs.YtjdbjnkmlajdoaaGreat.L5
