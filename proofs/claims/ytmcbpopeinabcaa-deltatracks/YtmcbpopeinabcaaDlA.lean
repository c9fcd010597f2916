/-
  Delta: values and slices of values in memory; the document's Same of two slices of values.
-/
import Derived.WalkKit
import Derived.Below
import Derived.BigQuiet
import Derived.Laws.OwnMore
import Derived.Laws.AppendOwnNone
import Derived.Test.YtmcbpopeinabcaaProg
import Derived.Test.YtmcbpopeinabcaaOnly
namespace Go.Proofs.Ytmcbpopeinabcaa
open Go.RowKit

theorem dhid {p : Prop} (h : p) : Hid p := h

theorem ret_bool {a b : Bool} (h : a = b) : Ending.returned (.bool a) = .returned (.bool b) := by rw [h]
theorem ret_int {a b : Int} (h : a = b) : Ending.returned (.int .i64 a) = .returned (.int .i64 b) := by rw [h]
theorem drew_more (w : World) (a b : Nat) : ∃ q, (w.drewN a).drewN b = w.drewN q := ⟨_, World.drewN_drewN _ _ _⟩

/-- A value. -/
structure Va where
  k : Int
  n : Int
  s : ByteArray
deriving Inhabited

def vaC (v : Va) : List Value := [.int .i64 v.k, .int .i64 v.n, .string v.s]

/-- Are two values alike? -/
def vaEq (u v : Va) : Bool := u.k == v.k && u.n == v.n && u.s.toList == v.s.toList

theorem bytes_ext {a b : ByteArray} (h : a.toList = b.toList) : a = b := by
  obtain ⟨⟨a⟩⟩ := a
  obtain ⟨⟨b⟩⟩ := b
  simp only [ByteArray.toList_eq] at h
  subst h
  rfl

theorem vaEq_iff {u v : Va} : vaEq u v = true ↔ u = v := by
  obtain ⟨k, n, s⟩ := u
  obtain ⟨k', n', s'⟩ := v
  simp only [vaEq, Bool.and_eq_true, beq_iff_eq, Va.mk.injEq]
  constructor
  · rintro ⟨⟨h1, h2⟩, h3⟩; exact ⟨h1, h2, bytes_ext h3⟩
  · rintro ⟨h1, h2, h3⟩; exact ⟨⟨h1, h2⟩, by rw [h3]⟩

/-- Are two lists of values alike? -/
def sameL : List Va → List Va → Bool
  | [], [] => true
  | u :: l, v :: m => vaEq u v && sameL l m
  | _, _ => false

theorem sameL_iff : ∀ {l m : List Va}, sameL l m = true ↔ l = m
  | [], [] => by simp [sameL]
  | [], _ :: _ => by simp [sameL]
  | _ :: _, [] => by simp [sameL]
  | u :: l, v :: m => by simp [sameL, vaEq_iff, sameL_iff]

theorem sameL_self (l : List Va) : sameL l l = true := sameL_iff.2 rfl

theorem sameL_len {l m : List Va} (h : l.length ≠ m.length) : sameL l m = false := by
  cases hs : sameL l m
  · rfl
  · exact absurd (congrArg List.length (sameL_iff.1 hs)) h

theorem sameL_step {l m : List Va} {j : Nat} {u v : Va} (h1 : l[j]? = some u) (h2 : m[j]? = some v) : sameL (l.drop j) (m.drop j) = (vaEq u v && sameL (l.drop (j + 1)) (m.drop (j + 1))) := by
  obtain ⟨g1, rfl⟩ := List.getElem?_eq_some_iff.1 h1
  obtain ⟨g2, rfl⟩ := List.getElem?_eq_some_iff.1 h2
  rw [List.drop_eq_getElem_cons g1, List.drop_eq_getElem_cons g2]; rfl

theorem sameL_end {l m : List Va} {n : Nat} (h1 : l.length = n) (h2 : m.length = n) : sameL (l.drop n) (m.drop n) = true := by
  rw [List.drop_eq_nil_of_le (by omega), List.drop_eq_nil_of_le (by omega)]; rfl

/-- The values of a slice whose first lies at a. -/
def SlV (W : World) (a : Option Addr) (l : List Va) : Prop := l = [] ∨ ∃ b o, a = some ⟨b, o, none⟩ ∧ b < W.heap.size ∧ ∀ j v, l[j]? = some v →
  W.cell? ⟨b, o + j * 3, none⟩ = some (.int .i64 v.k) ∧ W.cell? ⟨b, o + j * 3 + 1, none⟩ = some (.int .i64 v.n) ∧ W.cell? ⟨b, o + j * 3 + 2, none⟩ = some (.string v.s)

/-- It stands where its block stands. -/
theorem SlV.turn {W W' : World} {a : Option Addr} {l : List Va} (h : SlV W a l) (hs : W.heap.size ≤ W'.heap.size) (hb : ∀ b o, a = some ⟨b, o, none⟩ → W'.heap[b]? = W.heap[b]?) : SlV W' a l := by
  rcases h with h | ⟨b, o, e, hlt, hc⟩
  · exact Or.inl h
  · refine Or.inr ⟨b, o, e, by omega, fun j c hj => ?_⟩
    obtain ⟨c0, c1, c2⟩ := hc j c hj
    have e := fun i => World.cell?_of_block (w := W) (w' := W') (a := ⟨b, i, none⟩) (hb _ _ e)
    simp only [e]
    exact ⟨c0, c1, c2⟩

theorem SlV.below {W W' : World} {a : Option Addr} {l : List Va} (h : SlV W a l) (hb : Below W.heap.size W W') : SlV W' a l := by
  rcases h with h | ⟨b, o, e, hlt, hc⟩
  · exact Or.inl h
  · exact SlV.turn (Or.inr ⟨b, o, e, hlt, hc⟩) hb.size fun b' o' hp => by rw [e] at hp; cases hp; exact hb.block b hlt

theorem SlV.at {W : World} {a : Option Addr} {l : List Va} (h : SlV W a l) {j : Nat} (hj : j < l.length) : ∃ b o v, a = some ⟨b, o, none⟩ ∧ b < W.heap.size ∧ l[j]? = some v ∧
    W.cell? ⟨b, o + j * 3, none⟩ = some (.int .i64 v.k) ∧ W.cell? ⟨b, o + j * 3 + 1, none⟩ = some (.int .i64 v.n) ∧ W.cell? ⟨b, o + j * 3 + 2, none⟩ = some (.string v.s) := by
  rcases h with rfl | ⟨b, o, e, hlt, hc⟩
  · simp at hj
  · exact ⟨b, o, l[j], e, hlt, List.getElem?_eq_getElem hj, hc j _ (List.getElem?_eq_getElem hj)⟩

set_option maxRecDepth 100000 in
set_option maxHeartbeats 1000000 in
/-- Whether two slices have the same values. -/
theorem rsame_walk (a a' : Option Addr) (n n' cap cap' : Nat) (l m : List Va) (hl : l.length = n) (hm : m.length = n') (hb : n ≤ 1000000) (hb' : n' ≤ 1000000) (w : World) (h : SlV w a l) (h' : SlV w a' m) :
    Calls Try.prog 28 #[.slice a n cap, .slice a' n' cap'] w fun e w' => e = .returned (.bool (sameL l m)) ∧ ∃ q, w' = w.drewN q := by
  by_cases hn : n = n'
  · subst hn
    have HD : Hid (sameL (l.drop 0) (m.drop 0) = sameL l m) := rfl
    have HE := dhid (sameL_end hl hm)
    generalize sameL l m = R at HD ⊢
    have H := dhid h
    have H' := dhid h'
    have HL := dhid hl
    have HM := dhid hm
    clear h h' hl hm
    have hnn : ((n : Int) == (n : Int)) = true := beq_self_eq_true _
    go_enter Try.func28, Try.ntmps28
    go_wp2
    go_loopw [5] (fun i wr => ∃ j k : Nat, j ≤ n ∧ i = .int .i64 j ∧ wr = w.drewN k ∧ Hid (sameL (l.drop j) (m.drop j) = R)) (fun i _ => n - (intOf i).toNat)
    case atStart => exact ⟨0, 0, Nat.zero_le _, rfl, rfl, HD⟩
    case round =>
      obtain ⟨j, k, hj, rfl, rfl, HR⟩ := hrel
      by_cases hlt : j < n
      · obtain ⟨b, o, u, rfl, hb, hu, c0, c1, c2⟩ := SlV.at H.out (j := j) (by rw [HL.out]; exact hlt)
        obtain ⟨b', o', v, rfl, hb', hv, d0, d1, d2⟩ := SlV.at H'.out (j := j) (by rw [HM.out]; exact hlt)
        have HS := sameL_step hu hv
        rw [HR.out] at HS
        replace HS := dhid HS
        clear hu hv
        obtain ⟨uk, un, us⟩ := u
        obtain ⟨vk, vn, vs⟩ := v
        dsimp only at *
        cases h1 : (uk == vk) <;> cases h2 : (un == vn) <;> cases h3 : (us.toList == vs.toList)
        all_goals
          go_wp2
          go_quiet (fail)
          go_wp2
          first
          | (go_ret; exact ⟨ret_bool (by rw [HS.out]; simp [vaEq, h1, h2, h3]), drew_more _ _ _⟩)
          | exact ⟨⟨j + 1, _, hlt, by go_num, rfl, by rw [HS.out]; simp only [vaEq, h1, h2, h3]; exact (Bool.true_and _).symm⟩, by simp [intOf]; omega⟩
      · have hjn : j = n := by omega
        subst hjn
        go_wp2
        go_ret
        exact ⟨ret_bool (by rw [← HR.out, HE.out]), _, rfl⟩
  · rw [sameL_len (by omega)]
    have hnn : ((n : Int) == (n' : Int)) = false := beq_eq_false_iff_ne.2 (by omega)
    clear h h' hl hm
    go_enter Try.func28, Try.ntmps28
    go_wp2
    go_ret
    exact ⟨rfl, 0, rfl⟩
set_option maxRecDepth 100000 in
set_option maxHeartbeats 1000000 in
/-- The same, by slices.Equal. -/
theorem equal_walk (a a' : Option Addr) (n n' cap cap' : Nat) (l m : List Va) (hl : l.length = n) (hm : m.length = n') (hb : n ≤ 1000000) (hb' : n' ≤ 1000000) (w : World) (h : SlV w a l) (h' : SlV w a' m) :
    Calls Try.prog 27 #[.slice a n cap, .slice a' n' cap'] w fun e w' => e = .returned (.bool (sameL l m)) ∧ ∃ q, w' = w.drewN q := by
  by_cases hn : n = n'
  · subst hn
    have HD : Hid (sameL (l.drop 0) (m.drop 0) = sameL l m) := rfl
    have HE := dhid (sameL_end hl hm)
    generalize sameL l m = R at HD ⊢
    have H := dhid h
    have H' := dhid h'
    have HL := dhid hl
    have HM := dhid hm
    clear h h' hl hm
    have hnn : ((n : Int) == (n : Int)) = true := beq_self_eq_true _
    go_enter Try.func27, Try.ntmps27
    go_wp2
    go_loopw [13] (fun i wr => ∃ j k : Nat, j ≤ n ∧ i = .int .i64 j ∧ wr = w.drewN k ∧ Hid (sameL (l.drop j) (m.drop j) = R)) (fun i _ => n - (intOf i).toNat)
    case atStart => exact ⟨0, 0, Nat.zero_le _, rfl, rfl, HD⟩
    case round =>
      obtain ⟨j, k, hj, rfl, rfl, HR⟩ := hrel
      by_cases hlt : j < n
      · obtain ⟨b, o, u, rfl, hb, hu, c0, c1, c2⟩ := SlV.at H.out (j := j) (by rw [HL.out]; exact hlt)
        obtain ⟨b', o', v, rfl, hb', hv, d0, d1, d2⟩ := SlV.at H'.out (j := j) (by rw [HM.out]; exact hlt)
        have HS := sameL_step hu hv
        rw [HR.out] at HS
        replace HS := dhid HS
        clear hu hv
        obtain ⟨uk, un, us⟩ := u
        obtain ⟨vk, vn, vs⟩ := v
        dsimp only at *
        cases h1 : (uk == vk) <;> cases h2 : (un == vn) <;> cases h3 : (us.toList == vs.toList)
        all_goals
          go_wp2
          go_quiet (fail)
          go_wp2
          first
          | (go_ret; exact ⟨ret_bool (by rw [HS.out]; simp [vaEq, h1, h2, h3]), drew_more _ _ _⟩)
          | exact ⟨⟨j + 1, _, hlt, by go_num, rfl, by rw [HS.out]; simp only [vaEq, h1, h2, h3]; exact (Bool.true_and _).symm⟩, by simp [intOf]; omega⟩
      · have hjn : j = n := by omega
        subst hjn
        go_wp2
        go_ret
        exact ⟨ret_bool (by rw [← HR.out, HE.out]), _, rfl⟩
  · rw [sameL_len (by omega)]
    have hnn : ((n : Int) == (n' : Int)) = false := beq_eq_false_iff_ne.2 (by omega)
    clear h h' hl hm
    go_enter Try.func27, Try.ntmps27
    go_wp2
    go_ret
    exact ⟨rfl, 0, rfl⟩
end Go.Proofs.Ytmcbpopeinabcaa
