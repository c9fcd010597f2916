/-
  SchemaNames and SchemaFits: their walks.
-/
import Derived.Test.YtimfpabodmbkoaaScE
import Derived.Test.YtimfpabodmbkoaaScB
namespace Go.Proofs.Ytimfpabodmbkoaa
open Go.RowKit

set_option maxRecDepth 100000 in
set_option maxHeartbeats 400000 in
theorem names_walk (s : ByteArray) (w : World) : Calls Try.prog 3 #[.string s] w fun e w' => e = .returned (.bool true) ∧ Below w.heap.size w w' := by
  go_enter Try.func3, Try.ntmps3
  go_wp2_with fail
  refine (awake_walk _).mono ?_
  rintro e w1 ⟨rfl, B1⟩
  have HB := hid B1
  clear B1
  by_cases h : 1000 < s.size
  · have h' : (1000 : Int) < (s.size : Int) := by omega
    go_wp2
    go_ret
    exact ⟨rfl, HB.out⟩
  · have h' : (s.size : Int) ≤ 1000 := by omega
    have HN := name_walk s w1 (by unfold maxLen; omega)
    have HR := rname_walk s w1 (by unfold maxLen; omega)
    generalize nameB s = q at *
    go_wp2_with fail
    refine HN.mono ?_
    rintro e w2 ⟨rfl, rfl⟩
    clear HN
    go_wp2_with fail
    refine HR.mono ?_
    rintro e w3 ⟨rfl, rfl⟩
    clear HR
    cases q
    all_goals
      go_wp2
      go_ret
      exact ⟨rfl, HB.out⟩

set_option maxRecDepth 100000 in
set_option maxHeartbeats 400000 in
theorem fits_law_walk (l : List Col) (r : List Va) {a a' : Option Addr} {c c' : Nat} {w : World} (hl : SlC w a l) (hr : SlV w a' r) (h1 : l.length ≤ maxLen) (h2 : r.length ≤ maxLen) :
    Calls Try.prog 5 #[.slice a l.length c, .slice a' r.length c'] w fun e w' => e = .returned (.bool true) ∧ Below w.heap.size w w' := by
  have HL := hid hl
  have HV := hid hr
  clear hl hr
  go_enter Try.func5, Try.ntmps5
  go_wp2_with fail
  refine (awake_walk _).mono ?_
  rintro e w1 ⟨rfl, B1⟩
  have HB := hid B1
  clear B1
  go_wp2_with fail
  refine (great_walk l r (HL.out.below HB.out (Nat.le_refl _)) (HV.out.below HB.out (Nat.le_refl _)) h1 h2).mono ?_
  rintro e w2 ⟨rfl, B2⟩
  have HB2 := hid (HB.out.trans (B2.mono HB.out.size))
  clear HB B2
  cases hg : greatB l r
  · have hlen : l.length ≤ 50 := by
      simp [greatB] at hg
      omega
    go_wp2_with fail
    refine (fit_walk l r (HL.out.below HB2.out (Nat.le_refl _)) (HV.out.below HB2.out (Nat.le_refl _)) hlen).mono ?_
    rintro e w3 ⟨rfl, B3⟩
    have HB3 := hid (HB2.out.trans (B3.mono HB2.out.size))
    clear HB2 B3
    go_wp2_with fail
    refine (rfit_walk l r (HL.out.below HB3.out (Nat.le_refl _)) (HV.out.below HB3.out (Nat.le_refl _)) hlen).mono ?_
    rintro e w4 ⟨rfl, B4⟩
    have HB4 := hid (HB3.out.trans (B4.mono HB3.out.size))
    clear HB3 B4
    generalize fitT l r = q at *
    go_wp2
    go_ret
    exact ⟨rfl, HB4.out⟩
  · go_wp2
    go_ret
    exact ⟨rfl, HB2.out⟩
end Go.Proofs.Ytimfpabodmbkoaa
