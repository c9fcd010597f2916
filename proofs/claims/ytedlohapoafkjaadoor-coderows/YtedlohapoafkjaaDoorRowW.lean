/-
  A row's bytes: Row of package code, and the document's; whether two slices hold the same values.
-/
import Derived.Deep.QuietTactic
import Derived.BigQuiet
import Derived.Test.YtedlohapoafkjaaDoorCodeF
import Derived.Test.YtedlohapoafkjaaDoorRowV
namespace Go.Proofs.YtedlohapoafkjaaDoor
open Go.RowKit

def rowS (l : List Val) : ByteArray := if okRow l then strB (rowK l) else ⟨#[]⟩
def rowE (l : List Val) : Int := if okRow l then 0 else 15

theorem ok_no {l : List Val} {j : Nat} {v : Val} (h : l[j]? = some v) (hr : rightB v.k v.n v.s = false) : okRow l = false := by
  unfold okRow
  rw [Bool.and_eq_false_iff]
  right
  rw [List.all_eq_false]
  exact ⟨v, List.mem_of_getElem? h, by simp [hr]⟩

theorem ok_long {l : List Val} (h : 6 < l.length) : okRow l = false := by
  unfold okRow
  rw [Bool.and_eq_false_iff]
  left
  rw [decide_eq_false_iff_not]; omega

theorem row_no {l : List Val} (h : okRow l = false) : rowS l = ⟨#[]⟩ ∧ rowE l = 15 := by
  unfold rowS rowE
  rw [h]; exact ⟨rfl, rfl⟩

theorem row_yes {l : List Val} (hl : l.length ≤ 6) (h : ∀ v ∈ l, rightB v.k v.n v.s = true) : rowS l = strB (rowK l) ∧ rowE l = 0 ∧ okRow l = true := by
  have : okRow l = true := by
    unfold okRow
    rw [Bool.and_eq_true, decide_eq_true_eq, List.all_eq_true]
    exact ⟨hl, h⟩
  unfold rowS rowE
  rw [this]; exact ⟨rfl, rfl, rfl⟩

theorem take_next {l : List Val} {j : Nat} {v : Val} (h : l[j]? = some v) : l.take (j + 1) = l.take j ++ [v] := by
  rw [List.take_add_one, h]; rfl

theorem all_next {l : List Val} {j : Nat} {v : Val} (h : l[j]? = some v) (ha : ∀ u ∈ l.take j, rightB u.k u.n u.s = true) (hv : rightB v.k v.n v.s = true) : ∀ u ∈ l.take (j + 1), rightB u.k u.n u.s = true := by
  rw [take_next h]
  intro u hu
  rcases List.mem_append.1 hu with hu | hu
  · exact ha u hu
  · rw [List.mem_singleton.1 hu]; exact hv

set_option maxRecDepth 100000 in
set_option maxHeartbeats 4000000 in
theorem row_walk (a : Option Addr) (n cap : Nat) (hn : n ≤ maxLen) (l : List Val) (hf : ∀ v ∈ l, v.fit) (m : Int) (w : World) (h : Sl w a n l) (hl : 1 < w.heap.size) (hm : w.cell? ⟨1, 0, none⟩ = some (.int .i64 m)) :
    Calls Tryd.prog 22 #[.slice a n cap] w fun e w' => e = .returned (.tuple #[.string (rowS l), .int .i64 (rowE l)]) ∧ Below w.heap.size w w' := by
  unfold maxLen at hn
  have hlen := h.1
  go_enter Tryd.func22, Tryd.ntmps22
  by_cases h6 : 6 < n
  · obtain ⟨e1, e2⟩ := row_no (ok_long (l := l) (by omega))
    go_wp2
    go_ret2
    exact ⟨by rw [e1, e2]; rfl, Below.refl _ _⟩
  have h6' : n ≤ 6 := by omega
  clear h6
  have H : Hid _ := h
  have HF : Hid _ := hf
  clear h hf hn
  go_wp2
  go_loopw [4, 14] (fun t i wr => ∃ j : Nat, j ≤ n ∧ t = .string (strB (rowK (l.take j))) ∧ i = .int .i64 j ∧ Hid (∀ u ∈ l.take j, rightB u.k u.n u.s = true) ∧ Below w.heap.size w wr) (fun _ i _ => n - (intOf i).toNat)
  case atStart => exact ⟨0, Nat.zero_le _, rfl, rfl, (fun u hu => absurd hu (by simp) : ∀ u ∈ l.take 0, rightB u.k u.n u.s = true), Below.refl _ _⟩
  case round =>
    obtain ⟨j, hj, rfl, rfl, HA, B⟩ := hrel
    have hrl := row_len (l.take j) HA.out
    have htl : (l.take j).length ≤ j := List.length_take_le _ _
    have hsz : (strB (rowK (l.take j))).size ≤ 360 := by show (rowK (l.take j)).length ≤ 360; omega
    by_cases hlt : j < n
    · obtain ⟨b, o, v, rfl, hb, hv, c0, c1, c2⟩ := Sl.at H.out hlt
      rw [← B.cell hb] at c0 c1 c2
      have hfv : fits v.n = true := HF.out v (List.mem_of_getElem? hv)
      have hl1 : 1 < (wr.alloc (.cells #[.int .i64 v.k, .int .i64 v.n, .string v.s] 23)).heap.size := Nat.lt_of_lt_of_le hl (Nat.le_trans B.size (below_alloc _ _).size)
      have hm1 : (wr.alloc (.cells #[.int .i64 v.k, .int .i64 v.n, .string v.s] 23)).cell? ⟨1, 0, none⟩ = some (.int .i64 m) := by
        rw [(below_on B (below_alloc _ _)).cell hl]; exact hm
      have HV : Hid _ := hv
      clear hv hrl htl
      go_wp2_with fail
      refine (key_walk v.k v.n v.s hfv m _ hl1 hm1).mono ?_
      rintro e w1 ⟨rfl, hb1⟩
      replace B := below_on B (below_on (below_alloc _ _) hb1)
      clear hb1 hl1 hm1 c0 c1 c2
      cases hr : rightB v.k v.n v.s
      · have e1 : keyS v.k v.n v.s = ⟨#[]⟩ := by unfold keyS; rw [hr]; rfl
        have e2 : keyE v.k v.n v.s = 15 := by unfold keyE; rw [hr]; rfl
        have HN : Hid _ := row_no (ok_no HV.out hr)
        rw [e1, e2]
        clear e1 e2
        go_wp2
        go_ret2
        exact ⟨by first | rfl | (rw [HN.out.1, HN.out.2]; rfl), B⟩
      · have e1 : keyS v.k v.n v.s = strB v.key := by unfold keyS; rw [hr]; rfl
        have e2 : keyE v.k v.n v.s = 0 := by unfold keyE; rw [hr]; rfl
        rw [e1, e2]
        clear e1 e2
        have hks : (strB v.key).size ≤ 60 := key_len hr
        have HN : Hid (strB (rowK (l.take (j + 1))) = strB (rowK (l.take j)) ++ strB v.key) := by
          show _ = _
          rw [take_next HV.out, rowK_snoc, strB_append]
        go_wp2
        refine ⟨⟨j + 1, hlt, ?_, by go_num, all_next HV.out HA.out hr, B⟩, by simp [intOf]; omega⟩
        rw [HN.out]
    · have hjn : j = n := by omega
      subst hjn
      have ht : l.take j = l := List.take_of_length_le (by omega)
      rw [ht] at HA
      rw [ht]
      obtain ⟨e1, e2, _⟩ := row_yes (by omega) HA.out
      go_wp2
      go_ret2
      exact ⟨by first | rfl | (rw [e1, e2]; rfl), B⟩

set_option maxRecDepth 100000 in
set_option maxHeartbeats 4000000 in
theorem rrow_walk (a : Option Addr) (n cap : Nat) (hn : n ≤ maxLen) (l : List Val) (hf : ∀ v ∈ l, v.fit) (w : World) (h : Sl w a n l) :
    Calls Tryd.prog 23 #[.slice a n cap] w fun e w' => e = .returned (.tuple #[.string (rowS l), .bool (okRow l)]) ∧ Below w.heap.size w w' := by
  unfold maxLen at hn
  have hlen := h.1
  go_enter Tryd.func23, Tryd.ntmps23
  have H : Hid _ := h
  have HF : Hid _ := hf
  clear h hf
  go_wp2
  go_loopw [4, 5] (fun t i wr => ∃ j : Nat, j ≤ n ∧ j ≤ 6 ∧ t = .string (strB (rowK (l.take j))) ∧ i = .int .i64 j ∧ Hid (∀ u ∈ l.take j, rightB u.k u.n u.s = true) ∧ Below w.heap.size w wr) (fun _ i _ => n - (intOf i).toNat)
  case atStart => exact ⟨0, Nat.zero_le _, by omega, rfl, rfl, (fun u hu => absurd hu (by simp) : ∀ u ∈ l.take 0, rightB u.k u.n u.s = true), Below.refl _ _⟩
  case round =>
    obtain ⟨j, hj, hj6, rfl, rfl, HA, B⟩ := hrel
    have hrl := row_len (l.take j) HA.out
    have htl : (l.take j).length ≤ j := List.length_take_le _ _
    have hsz : (strB (rowK (l.take j))).size ≤ 360 := by show (rowK (l.take j)).length ≤ 360; omega
    by_cases hlt : j < n
    · obtain ⟨b, o, v, rfl, hb, hv, c0, c1, c2⟩ := Sl.at H.out hlt
      rw [← B.cell hb] at c0 c1 c2
      have hfv : fits v.n = true := HF.out v (List.mem_of_getElem? hv)
      have HV : Hid _ := hv
      clear hv hrl htl
      by_cases h5 : 5 < j
      · obtain ⟨e1, _⟩ := row_no (ok_long (l := l) (by omega))
        have e2 := ok_long (l := l) (by omega)
        go_wp2
        go_ret2
        exact ⟨by first | rfl | (rw [e1, e2]; rfl), B⟩
      have h5' : j ≤ 5 := by omega
      clear h5
      go_wp2_with fail
      refine (rright_walk v.k v.n v.s _).mono ?_
      rintro e w1 ⟨rfl, hb1⟩
      rw [← hb1.cell (Nat.lt_of_lt_of_le hb B.size)] at c0 c1 c2
      replace B := below_on B hb1
      clear hb1
      cases hr : rightB v.k v.n v.s
      · obtain ⟨e1, _⟩ := row_no (ok_no HV.out hr)
        have e2 := ok_no HV.out hr
        go_wp2
        go_ret2
        exact ⟨by first | rfl | (rw [e1, e2]; rfl), B⟩
      · go_wp2_with fail
        refine (rkey_walk v.k v.n v.s hr hfv _).mono ?_
        rintro e w2 ⟨rfl, hb2⟩
        replace B := below_on B hb2
        clear hb2 c0 c1 c2
        have hks : (strB (keyL v.k v.n v.s)).size ≤ 60 := key_len hr
        have HN : Hid (strB (rowK (l.take (j + 1))) = strB (rowK (l.take j)) ++ strB (keyL v.k v.n v.s)) := by
          show _ = _
          rw [take_next HV.out, rowK_snoc, strB_append]
          rfl
        go_wp2
        refine ⟨⟨j + 1, hlt, by omega, ?_, by go_num, all_next HV.out HA.out hr, B⟩, by simp [intOf]; omega⟩
        rw [HN.out]
    · have hjn : j = n := by omega
      subst hjn
      have ht : l.take j = l := List.take_of_length_le (by omega)
      rw [ht] at HA
      rw [ht]
      obtain ⟨e1, _, e2⟩ := row_yes (by omega) HA.out
      go_wp2
      go_ret2
      exact ⟨by first | rfl | (rw [e1, e2]; rfl), B⟩

set_option maxRecDepth 100000 in
set_option maxHeartbeats 4000000 in
/-- Two slices with the same values are told to be the same. -/
theorem same_walk (a a' : Option Addr) (n cap cap' : Nat) (hn : n ≤ maxLen) (l : List Val) (w : World) (h : Sl w a n l) (h' : Sl w a' n l) :
    Calls Tryd.prog 25 #[.slice a n cap, .slice a' n cap'] w fun e w' => e = .returned (.bool true) ∧ Below w.heap.size w w' := by
  unfold maxLen at hn
  have hlen := h.1
  go_enter Tryd.func25, Tryd.ntmps25
  have H : Hid _ := h
  have H' : Hid _ := h'
  clear h h'
  have hnn : ((n : Int) == (n : Int)) = true := beq_self_eq_true _
  go_wp2
  go_loopw [5] (fun i wr => ∃ j k : Nat, j ≤ n ∧ i = .int .i64 j ∧ wr = w.drewN k) (fun i _ => n - (intOf i).toNat)
  case atStart => exact ⟨0, 0, Nat.zero_le _, rfl, rfl⟩
  case round =>
    obtain ⟨j, k, hj, rfl, rfl⟩ := hrel
    by_cases hlt : j < n
    · obtain ⟨b, o, v, rfl, hb, hv, c0, c1, c2⟩ := Sl.at H.out hlt
      obtain ⟨b', o', v', rfl, hb', hv', d0, d1, d2⟩ := Sl.at H'.out hlt
      rw [hv] at hv'
      cases hv'
      have hs : (v.s.toList == v.s.toList) = true := beq_self_eq_true _
      clear hv
      go_wp2
      go_quiet (fail)
      go_wp2
      exact ⟨⟨j + 1, _, hlt, by go_num, rfl⟩, by simp [intOf]; omega⟩
    · have hjn : j = n := by omega
      subst hjn
      go_wp2
      go_ret
      exact ⟨rfl, ⟨rfl, rfl, rfl, Nat.le_refl _, fun _ _ => rfl⟩⟩
end Go.Proofs.YtedlohapoafkjaaDoor
