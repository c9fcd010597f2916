/-
  SchemaColumns: its walk.
-/
import Derived.Test.YtimfpabodmbkoaaScH
namespace Go.Proofs.Ytimfpabodmbkoaa
open Go.RowKit

set_option maxRecDepth 100000 in
set_option maxHeartbeats 400000 in
theorem cols_law_walk (l : List Col) (s : ByteArray) {a : Option Addr} {c : Nat} {w : World} (hl : SlC w a l) (hcap : l.length ≤ c) (hcm : c ≤ maxLen) :
    Calls Try.prog 4 #[.slice a l.length c, .string s] w fun e w' => e = .returned (.bool true) ∧ Below w.heap.size w w' := by
  have HL := hid hl
  clear hl
  go_enter Try.func4, Try.ntmps4
  go_wp2_with fail
  refine (awake_walk _).mono ?_
  rintro e w1 ⟨rfl, B1⟩
  have HB := hid B1
  clear B1
  go_wp2_with fail
  refine (great_walk l [] (HL.out.below HB.out (Nat.le_refl _)) (Or.inl rfl) (by omega) (by simp)).mono ?_
  rintro e w2 ⟨rfl, B2⟩
  have HB2 := hid (HB.out.trans (B2.mono HB.out.size))
  clear HB B2
  cases hg : greatB l []
  · obtain ⟨hlen, hs⟩ : l.length ≤ 50 ∧ ∀ d ∈ l, d.s.size ≤ 1000 := by
      simp [greatB] at hg
      exact hg
    have HS := hid hs
    clear hs
    by_cases hb : 1000 < s.size
    · have hb' : (1000 : Int) < (s.size : Int) := by omega
      go_wp2
      go_ret
      exact ⟨rfl, HB2.out⟩
    have hb' : (s.size : Int) ≤ 1000 := by omega
    go_wp2_with fail
    refine (columns_walk l (HL.out.below HB2.out (Nat.le_refl _)) hlen hcap hcm HS.out).mono ?_
    rintro e w3 ⟨rfl, B3⟩
    have HB3 := hid (HB2.out.trans (B3.mono HB2.out.size))
    clear HB2 B3
    go_wp2_with fail
    refine (rcolumns_walk l (HL.out.below HB3.out (Nat.le_refl _)) hlen HS.out).mono ?_
    rintro e w4 ⟨rfl, B4⟩
    have HB4 := hid (HB3.out.trans (B4.mono HB3.out.size))
    clear HB3 B4
    generalize colsT l = q at *
    go_wp2_with fail
    refine (find_walk l s (HL.out.below HB4.out (Nat.le_refl _)) hlen).mono ?_
    rintro e w5 ⟨rfl, B5⟩
    have HB5 := hid (HB4.out.trans (B5.mono HB4.out.size))
    clear HB4 B5
    go_wp2_with fail
    refine (rfind_walk l s (HL.out.below HB5.out (Nat.le_refl _)) hlen).mono ?_
    rintro e w6 ⟨rfl, B6⟩
    have HB6 := hid (HB5.out.trans (B6.mono HB5.out.size))
    clear HB5 B6
    generalize findI l s = q' at *
    go_wp2
    go_ret
    exact ⟨rfl, HB6.out⟩
  · go_wp2
    go_ret
    exact ⟨rfl, HB2.out⟩
end Go.Proofs.Ytimfpabodmbkoaa
