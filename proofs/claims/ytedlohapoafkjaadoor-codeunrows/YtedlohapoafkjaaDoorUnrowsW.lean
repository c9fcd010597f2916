/-
  The walk of CodeUnrows.
-/
import Derived.Test.YtedlohapoafkjaaDoorRowW
import Derived.Test.YtedlohapoafkjaaDoorUnrowW
namespace Go.Proofs.YtedlohapoafkjaaDoor
open Go.RowKit

set_option maxRecDepth 100000 in
set_option maxHeartbeats 4000000 in
theorem unrows_walk (s : ByteArray) (m : Int) (w : World) (hl : 1 < w.heap.size) (hm : w.cell? ⟨1, 0, none⟩ = some (.int .i64 m)) :
    Calls Tryd.prog 8 #[.string s] w fun e w' => e = .returned (.bool true) ∧ Below w.heap.size w w' := by
  go_enter Tryd.func8, Tryd.ntmps8
  go_wp2_with fail
  refine (awake_walk m _ hl hm).mono ?_
  rintro e w1 ⟨rfl, hb⟩
  by_cases h1000 : 1000 < s.size
  · go_wp2
    go_ret
    exact ⟨rfl, hb⟩
  have hs : s.size ≤ 1000 := by omega
  clear h1000
  go_wp2_with fail
  refine (unrow_walk s (by omega) _).mono ?_
  rintro e w2 ⟨a, n, cap, rfl, hn, hS, hb2⟩
  replace hb := below_on hb hb2
  clear hb2
  go_wp2_with fail
  refine (runrow_walk s (by omega) _).mono ?_
  rintro e w3 ⟨a', n', cap', rfl, hn', hS', hb3⟩
  replace hS := hS.below hb3
  replace hb := below_on hb hb3
  clear hb3
  have hnn : n = n' := by rw [← hS.1, ← hS'.1]
  subst hnn
  cases hu : unr 6 [] s.data.toList with
  | none =>
    rw [hu] at hS
    have h0 : n = 0 := by rw [← hS.1]; rfl
    subst h0
    clear hS hS' hu
    simp only [Option.isSome_none, errY, boolY, Bool.false_eq_true, if_false]
    go_wp2
    go_ret
    exact ⟨rfl, hb⟩
  | some l =>
    rw [hu] at hS hS'
    replace hS : Sl w3 a n l := hS
    replace hS' : Sl w3 a' n l := hS'
    obtain ⟨l', e1, e2, e3, e4⟩ := unr_spec 6 [] _ l hu
    rw [List.nil_append] at e1
    subst e1
    obtain ⟨r1, r2, _⟩ := row_yes e2 (fun v hv => (e3 v hv).1)
    have hfit : ∀ v ∈ l, v.fit := fun v hv => (e3 v hv).2
    have hq : ((rowS l).toList == s.toList) = true := by
      rw [r1, ← e4]
      simp [strB]
    have hm3 : w3.cell? ⟨1, 0, none⟩ = some (.int .i64 m) := by rw [hb.cell hl]; exact hm
    have hl3 := Nat.lt_of_lt_of_le hl hb.size
    have HS : Hid _ := hS
    have HS' : Hid _ := hS'
    clear hS hS' hu e3 e4 r1 hl hm
    simp only [Option.isSome_some, errY, boolY, if_true]
    go_wp2_with fail
    refine (row_walk a n cap (by unfold maxLen; omega) l hfit m _ HS.out hl3 hm3).mono ?_
    rintro e w4 ⟨rfl, hb4⟩
    have HS4 : Hid _ := Sl.below HS.out hb4
    have HS4' : Hid _ := Sl.below HS'.out hb4
    replace hb := below_on hb hb4
    rw [r2]
    clear hb4 hm3 hl3 r2 hfit
    generalize rowS l = x at *
    go_wp2_with fail
    refine (same_walk a a' n cap cap' (by unfold maxLen; omega) l _ HS4.out HS4'.out).mono ?_
    rintro e w5 ⟨rfl, hb5⟩
    replace hb := below_on hb hb5
    clear hb5
    go_wp2
    go_ret
    exact ⟨rfl, hb⟩
end Go.Proofs.YtedlohapoafkjaaDoor
